"""The interface: each name stands in its own file, with its arguments handed in by their places."""

import importlib
import inspect
import unittest

FILES = {
    "errors": {"SongError": None, "BadSign": 1, "BadText": 1, "BadSong": 1, "Unpure": 1, "TooTight": 1,
               "NoHome": None, "NoTie": None, "BadLine": None},
    "words": {"text_words": 1, "is_name": 1},
    "ratios": {"ratio_of": 2, "together": 2, "turned": 1, "power": 2, "size": 1, "fraction": 1,
               "ratio_text": 1},
    "reading": {"read": 1, "read_tie": 1},
    "writing": {"written": 1},
    "songs": {"need_song": 1, "is_overlap": 2, "parts_of": 1},
    "tuning": {"tuned": 1, "round_ratio": 2, "is_round": 3},
    "sinking": {"sink": 1, "sunk": 2, "lost": 2},
    "bending": {"bends": 2, "stands": 2, "cost": 2, "worth": 2, "is_flow": 2, "brought": 1},
    "papers": {"is_right": 2},
    "house": {"House": 1},
    "desk": {"Desk": 1},
}
METHODS = {
    ("house", "House"): {"put": 1, "take": 1, "song": 0, "tuned": 0, "sink": 0, "lost": 1, "brought": 0},
    ("desk", "Desk"): {"say": 1},
}


class Interface(unittest.TestCase):
    def test_names(self):
        for file, names in FILES.items():
            module = importlib.import_module("choirtrue." + file)
            for name, many in names.items():
                with self.subTest(file=file, name=name):
                    told = getattr(module, name)
                    self.assertEqual(told.__module__, "choirtrue." + file)
                    if many is not None:
                        self.assertEqual(len(inspect.signature(told).parameters), many)

    def test_methods_stand_in_the_class_itself(self):
        for (file, kind), names in METHODS.items():
            methods = vars(getattr(importlib.import_module("choirtrue." + file), kind))
            for name, many in names.items():
                with self.subTest(file=file, name=name):
                    # The object itself is one more.
                    self.assertEqual(len(inspect.signature(methods[name]).parameters), many + 1)


if __name__ == "__main__":
    unittest.main()
