"""The interface: each name stands in its own file, with its arguments handed in by their places."""

import importlib
import inspect
import unittest

FILES = {
    "errors": {"SongError": None, "BadSign": 1, "BadText": 1, "BadSong": 1, "Unpure": 1, "TooTight": 1,
               "NoHome": None, "NoTie": None, "BadLine": None},
    "words": {"text_words": 1, "is_name": 1},
    "ratios": {"ratio_of": 2, "together": 2, "turned": 1, "power": 2, "size": 1, "fraction": 1,
               "ratio_text": 1},
    "reading": {"read": 1, "read_tie": 1},
    "writing": {"written": 1},
    "songs": {"need_song": 1, "is_overlap": 2, "parts_of": 1},
    "tuning": {"tuned": 1, "round_ratio": 2, "is_round": 3},
    "sinking": {"sink": 1, "sunk": 2, "lost": 2},
}


class Interface(unittest.TestCase):
    def test_names(self):
        for file, names in FILES.items():
            module = importlib.import_module("choirtrue." + file)
            for name, many in names.items():
                with self.subTest(file=file, name=name):
                    told = getattr(module, name)
                    self.assertEqual(told.__module__, "choirtrue." + file)
                    if many is not None:
                        self.assertEqual(len(inspect.signature(told).parameters), many)


if __name__ == "__main__":
    unittest.main()
