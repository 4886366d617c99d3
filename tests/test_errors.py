"""The interface's choirtrue/errors.py: the refusals and their fields."""

import unittest

from choirtrue import errors

FIELDS = {
    "BadSign": ("spot", 7),
    "BadText": ("spot", (2, 0)),
    "BadSong": ("row", ("tie", 3)),
    "Unpure": ("round_of", [(0, 1), (2, -1)]),
    "TooTight": ("round_of", [(4, -1), (1, 1)]),
}
FIELDLESS = ("NoHome", "NoTie", "BadLine")


class Refusals(unittest.TestCase):
    def test_song_error_is_a_value_error(self):
        self.assertEqual(errors.SongError.__bases__, (ValueError,))

    def test_all_stand_straight_under_song_error(self):
        for name in [*FIELDS, *FIELDLESS]:
            with self.subTest(name):
                self.assertEqual(getattr(errors, name).__bases__, (errors.SongError,))

    def test_fields(self):
        for name, (field, told) in FIELDS.items():
            with self.subTest(name):
                refusal = getattr(errors, name)(told)
                self.assertEqual(getattr(refusal, field), told)
                self.assertIs(getattr(refusal, field).__class__, told.__class__)

    def test_fields_belong_to_each_object(self):
        for name, (field, told) in FIELDS.items():
            with self.subTest(name):
                self.assertFalse(hasattr(getattr(errors, name), field))

    def test_without_a_field(self):
        for name in FIELDLESS:
            with self.subTest(name):
                with self.assertRaises(errors.SongError):
                    raise getattr(errors, name)()

    def test_a_round_that_is_handed_in_may_be_changed(self):
        for name in ("Unpure", "TooTight"):
            with self.subTest(name):
                told = [(0, 1), (1, -1)]
                refusal = getattr(errors, name)(told)
                told.append((9, 1))
                self.assertEqual(refusal.round_of, [(0, 1), (1, -1)])


if __name__ == "__main__":
    unittest.main()
