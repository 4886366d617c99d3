"""Promise 5: what is written of a told song."""

import random
import unittest

from choirtrue.ratios import ratio_of
from choirtrue.reading import read
from choirtrue.writing import written

NOUGHT = (0, 0, 0, 0)
FIFTH = (-1, 1, 0, 0)


def of_tie(word, ratio, bend, weight):
    return written(((), ((word, "a", "b", ratio, bend, weight),), None))


def random_song(chance):
    """Any told song that a text can have, let by or not."""
    names = ["a", "b", "abcdefgh", "z", "alto"]
    parts = [number for number in range(1, 10000) if 210 ** 14 % number == 0]
    notes = [(chance.choice(names), chance.choice(names), chance.choice((0, 7, 9999)), chance.choice((0, 1, 9999)))
             for _ in range(chance.randrange(6))]
    ties = []
    for _ in range(chance.randrange(6)):
        word = chance.choice(("held", "pure", "step"))
        ratio = NOUGHT if word == "held" else ratio_of(chance.choice(parts), chance.choice(parts))
        ties.append((word, chance.choice(names), chance.choice(names), ratio,
                     chance.choice((0, 1, 49, 50, 51, 9999)), chance.choice((1, 1, 2, 9))))
    home = chance.choice((None, (chance.choice(names), chance.choice(names))))
    return (tuple(notes), tuple(ties), home)


class Writing(unittest.TestCase):
    def test_nothing(self):
        self.assertEqual(written(((), (), None)), "")

    def test_notes(self):
        self.assertEqual(written(((("c", "alto", 0, 4),), (), None)), "note c alto 0 4")
        self.assertEqual(written(((("c", "c", 9999, 0), ("abcdefgh", "z", 10, 20)), (), None)),
                         "note c c 9999 0\nnote abcdefgh z 10 20")

    def test_home_alone(self):
        self.assertEqual(written(((), (), ("a", "b"))), "home a b")

    def test_ties_without_notes(self):
        self.assertEqual(written(((), (("held", "a", "b", NOUGHT, 50, 1), ("step", "b", "a", FIFTH, 50, 1)), None)),
                         "held a b\nstep b a 3 / 2")

    def test_notes_then_ties_then_home(self):
        song = (
            (("b", "v", 2, 4), ("a", "v", 0, 2)),
            (("step", "a", "b", (-3, 2, 0, 0), 7, 1), ("held", "a", "b", NOUGHT, 50, 1)),
            ("b", "a"),
        )
        text = "note b v 2 4\nnote a v 0 2\nstep a b 9 / 8 bend 7\nheld a b\nhome b a"
        self.assertEqual(written(song), text)
        self.assertEqual(written(read("home b a\n\n step a b 18/16 bend 7 weight 1\nnote b v 2 4 \n"
                                      "held a b bend 50\nhome c d\nnote a v 0 2")), text)

    def test_bend_and_weight(self):
        for word, ratio, head in (("held", NOUGHT, "held a b"), ("pure", FIFTH, "pure a b 3 / 2"),
                                  ("step", (1, -1, 0, 0), "step a b 2 / 3")):
            self.assertEqual(of_tie(word, ratio, 50, 1), head)
            self.assertEqual(of_tie(word, ratio, 50, 2), head + " bend 50 weight 2")
            self.assertEqual(of_tie(word, ratio, 50, 9), head + " bend 50 weight 9")
            self.assertEqual(of_tie(word, ratio, 0, 1), head + " bend 0")
            self.assertEqual(of_tie(word, ratio, 49, 1), head + " bend 49")
            self.assertEqual(of_tie(word, ratio, 9999, 1), head + " bend 9999")
            self.assertEqual(of_tie(word, ratio, 0, 3), head + " bend 0 weight 3")
            self.assertEqual(of_tie(word, ratio, 1, 9), head + " bend 1 weight 9")

    def test_ratios(self):
        for ratio, told in ((NOUGHT, "1 / 1"), ((13, 0, 0, 0), "8192 / 1"), ((0, 0, 0, -4), "1 / 2401"),
                            ((-1, 1, 1, -1), "15 / 14"), ((-4, 4, -1, 0), "81 / 80")):
            for word in ("pure", "step"):
                self.assertEqual(of_tie(word, ratio, 50, 1), word + " a b " + told)
        self.assertEqual(written(read("pure a b 9000 / 6000 bend 1")), "pure a b 3 / 2 bend 1")

    def test_great_numbers(self):
        self.assertEqual(of_tie("pure", (100, -70, 0, 0), 50, 1), f"pure a b {2 ** 100} / {3 ** 70}")
        self.assertEqual(of_tie("step", (0, 30, -40, 50), 3, 2),
                         f"step a b {3 ** 30 * 7 ** 50} / {5 ** 40} bend 3 weight 2")

    def test_the_longest_song(self):
        notes = "\n".join(["note abcdefgh abcdefgh 9998 9999"] * 40)
        ties = "\n".join(["pure abcdefgh abcdefgh 9800 / 6561 bend 9999 weight 9"] * 80)
        text = notes + "\n" + ties + "\nhome abcdefgh abcdefgh"
        self.assertEqual(written(read(text)), text)

    def test_read_again(self):
        chance = random.Random(5)
        for _ in range(2000):
            song = random_song(chance)
            text = written(song)
            self.assertIs(text.__class__, str)
            self.assertEqual(read(text), song)
            self.assertEqual(written(read(text)), text)

    def test_told_only_by_what_it_is(self):
        chance = random.Random(6)
        for _ in range(200):
            song = random_song(chance)
            rows = written(song).split("\n")
            filled = [row for row in rows if row]
            self.assertEqual(len(filled), len(song[0]) + len(song[1]) + (song[2] is not None))
            for row in filled:
                self.assertEqual(row, " ".join(row.split()))
                self.assertNotIn("weight 1", row)
                self.assertFalse(row.endswith("bend 50"))

    def test_the_same_again(self):
        song = random_song(random.Random(7))
        self.assertEqual(written(song), written(song))


if __name__ == "__main__":
    unittest.main()
