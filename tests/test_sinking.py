"""Promise 10: how a song sinks, and where it is lost."""

import random
import unittest

from choirtrue.errors import NoHome, Unpure
from choirtrue.ratios import ratio_of, size
from choirtrue.reading import read
from choirtrue.sinking import lost, sink, sunk
from choirtrue.songs import need_song

NOUGHT = (0, 0, 0, 0)
NOTES = "note a a 0 1\nnote b b 0 1\nnote c c 0 1\nnote d d 0 1\nnote e e 0 1\n"
# From a to e by fifths and fourths, and back by a third: a comma of 81 / 80.
COMMA = NOTES + "pure a b 3/2\npure b c 3/4\npure c d 3/2\npure e d 5/3\n"
UNPURE = "pure a b 3/2\npure a b 4/3\n"
ALL = (sink, lambda song: sunk(song, 0), lambda song: sunk(song, 3), lambda song: lost(song, 0),
       lambda song: lost(song, 9))


class Sinking(unittest.TestCase):
    def test_it_rises(self):
        song = read(COMMA + "home a e")
        need_song(song)
        self.assertEqual(sink(song), ratio_of(81, 80))
        self.assertIs(sink(song).__class__, tuple)

    def test_it_sinks(self):
        self.assertEqual(sink(read(COMMA + "home e a")), ratio_of(80, 81))
        self.assertEqual(sink(read(COMMA + "home b a")), ratio_of(2, 3))
        self.assertEqual(sink(read(COMMA + "home d b")), ratio_of(8, 9))

    def test_it_stays(self):
        song = read(NOTES + "pure a b 3/2\npure b c 2/3\nhome a c")
        self.assertEqual(sink(song), NOUGHT)
        self.assertEqual(sunk(song, 7), NOUGHT)
        for bound in (0, 1, 10 ** 9):
            self.assertIsNone(lost(song, bound))

    def test_neither_of_home_is_the_least_name(self):
        song = read(NOTES + "pure c a 7/4\npure a d 5/4\npure b e 3/2\nhome c d")
        self.assertEqual(sink(song), ratio_of(35, 16))

    def test_a_song_of_all_words(self):
        song = read("note c alto 0 4\nnote e tenor 2 6\nnote d alto 4 8\nnote g tenor 6 8\n"
                    "pure c e 5/4\nstep c d 9/8\nstep e g 6/5\npure d g 4/3\nhome c g")
        need_song(song)
        self.assertEqual(sink(song), ratio_of(3, 2))

    def test_sunk(self):
        song = read(COMMA + "home a e")
        for verses in range(12):
            self.assertEqual(sunk(song, verses), (-4 * verses, 4 * verses, -verses, 0))
            self.assertIs(sunk(song, verses).__class__, tuple)
        self.assertEqual(sunk(song, 10 ** 12), (-4 * 10 ** 12, 4 * 10 ** 12, -10 ** 12, 0))

    def test_lost(self):
        for home in ("home a e", "home e a"):
            song = read(COMMA + home)
            self.assertEqual(abs(size(sink(song))), 21506)
            for bound, verse in ((0, 1), (21505, 1), (21506, 2), (21507, 2), (43011, 2), (43012, 3), (43013, 3),
                                 (21506 * 99 - 1, 99), (21506 * 99, 100), (21506 * 10 ** 12, 10 ** 12 + 1)):
                self.assertEqual(lost(song, bound), verse)

    def test_lost_by_going_through_the_verses(self):
        chance = random.Random(14)
        for _ in range(300):
            ratio = ratio_of(chance.choice((1, 2, 3, 4, 5, 6, 7, 81, 9604)), chance.choice((1, 2, 3, 5, 80, 9800)))
            song = (read(NOTES)[0], (("pure", "a", "b", ratio, 50, 1),), chance.choice((("a", "b"), ("b", "a"))))
            bound = chance.choice((0, 1, chance.randrange(10 ** 8)))
            if size(ratio) == 0:
                self.assertIsNone(lost(song, bound))
                continue
            verse = 1
            while abs(size(sunk(song, verse))) <= bound:
                verse += 1
            self.assertEqual(lost(song, bound), verse)

    def test_another_ratio_of_nought_grains(self):
        """Never lost, although it is not (0, 0, 0, 0) by which it sinks."""
        ratio = (1901955, -1200000, 0, 0)
        song = (read(NOTES)[0], (("pure", "a", "b", ratio, 50, 1),), ("a", "b"))
        self.assertEqual(sink(song), ratio)
        self.assertEqual(sunk(song, 2), (3803910, -2400000, 0, 0))
        self.assertIsNone(lost(song, 0))

    def test_a_home_that_is_tied_twice(self):
        self.assertEqual(sink(read(NOTES + "pure a b 3/2\npure a b 3/2\nhome a b")), ratio_of(3, 2))


class Refused(unittest.TestCase):
    def check(self, text, kind):
        song = read(text)
        need_song(song)
        for ask in ALL:
            with self.assertRaises(kind) as caught:
                ask(song)
            self.assertIs(caught.exception.__class__, kind)

    def test_without_a_home(self):
        self.check("", NoHome)
        self.check(NOTES, NoHome)
        self.check(COMMA, NoHome)

    def test_unpure(self):
        self.check(NOTES + UNPURE + "home a b", Unpure)
        self.check(NOTES + UNPURE + "pure c d 3/2\nhome c d", Unpure)

    def test_which_round(self):
        with self.assertRaises(Unpure) as caught:
            sink(read(NOTES + UNPURE + "home a b"))
        self.assertEqual(sorted(number for number, _ in caught.exception.round_of), [0, 1])

    def test_home_that_does_not_hang_together(self):
        self.check(NOTES + "home a b", NoHome)
        self.check(NOTES + "pure a b 3/2\npure c d 3/2\nhome a c", NoHome)
        self.check(NOTES + "pure a b 3/2\nhome e a", NoHome)

    def test_the_order_of_refusals(self):
        self.check(NOTES + UNPURE, NoHome)
        self.check(NOTES + UNPURE + "home c d", Unpure)
        self.check(NOTES + UNPURE + "home a c", Unpure)

    def test_the_same_again(self):
        song = read(COMMA + "home a e")
        self.assertEqual([ask(song) for ask in ALL], [ask(song) for ask in ALL])
        self.assertEqual(song, read(COMMA + "home a e"))


if __name__ == "__main__":
    unittest.main()
