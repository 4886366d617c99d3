"""Promises 8 and 9: pure tunings, and rounds."""

import random
import unittest

from choirtrue.errors import SongError, Unpure
from choirtrue.ratios import ratio_of
from choirtrue.reading import read
from choirtrue.songs import need_song, parts_of
from choirtrue.tuning import is_round, round_ratio, tuned

NOUGHT = (0, 0, 0, 0)
FIFTH = (-1, 1, 0, 0)
# Notes of one beat, each in a voice of its own, so that any two of them may be tied.
FOUR = "note a a 0 1\nnote b b 0 1\nnote c c 0 1\nnote d d 0 1\n"
COMMA = FOUR + "pure a b 3/2\npure b c 3/2\npure c d 3/2\npure a d 27/10\n"


def song_of(names, ties, home=None):
    """A song of such names and pure ties (one, other, ratio)."""
    return (tuple((name, "v" + name, 0, 1) for name in names),
            tuple(("pure", one, other, ratio, 50, 1) for one, other, ratio in ties), home)


def random_song(chance, most_notes, most_ties, spread):
    """The less the spread, the more rounds come to (0, 0, 0, 0)."""
    names = chance.sample("abcdefghij", chance.randrange(2, most_notes + 1))
    heights = {name: chance.choice((NOUGHT, FIFTH, (-2, 0, 1, 0), (4, -1, 0, -1))) for name in names}
    ties = []
    for _ in range(chance.randrange(most_ties + 1)):
        one, other = chance.sample(names, 2)
        ratio = [theirs - ours for ours, theirs in zip(heights[one], heights[other])]
        if chance.random() < spread:
            ratio[chance.randrange(4)] += chance.choice((-1, 1))
        ties.append((one, other, tuple(ratio)))
    return song_of(names, ties, tuple(chance.sample(names, 2)) if chance.random() < 0.5 else None)


def ring_song(chance):
    """A ring of notes, one tie of it a comma off, with pure ties across."""
    names = chance.sample("abcdefghij", chance.randrange(4, 7))
    ties = [(one, other, NOUGHT) for one, other in zip(names, names[1:] + names[:1])]
    ties += [(*chance.sample(names, 2), NOUGHT) for _ in range(chance.randrange(3))]
    at = chance.randrange(len(ties))
    ties[at] = (*ties[at][:2], (-4, 4, -1, 0))
    chance.shuffle(ties)
    return song_of(names, ties)


def links_of(song, home):
    links = [(tie[1], tie[2], tie[3]) for tie in song[1]]
    if home and song[2] is not None:
        links.append((*song[2], NOUGHT))
    return links


def all_rounds(links):
    """Every round, and what it comes to, found by going everywhere; written apart from the program."""
    found = {}

    def go(first, at, steps, ended, total):
        for number, (one, other, ratio) in enumerate(links):
            if number in [step[0] for step in steps]:
                continue
            for forth, begin, end in ((1, one, other), (-1, other, one)):
                if begin == at and end not in ended:
                    behind = tuple(have + forth * more for have, more in zip(total, ratio))
                    if end == first:
                        found[(*steps, (number, forth))] = behind
                    else:
                        go(first, end, [*steps, (number, forth)], ended | {end}, behind)

    for name in sorted({name for link in links for name in link[:2]}):
        go(name, name, [], set(), NOUGHT)
    return {steps: total for steps, total in found.items() if len(steps) >= 2}


class Tuned(unittest.TestCase):
    """Promise 8."""

    def test_nothing(self):
        told = tuned(read(""))
        self.assertEqual(told, {})
        self.assertIs(told.__class__, dict)

    def test_without_ties(self):
        told = tuned(read("note b v 0 1\nnote a v 1 2\nnote c w 0 1\nhome b a"))
        self.assertEqual(list(told.items()), [("a", NOUGHT), ("b", NOUGHT), ("c", NOUGHT)])

    def test_one_tie(self):
        self.assertEqual(tuned(read(FOUR + "pure a b 3/2")), {"a": NOUGHT, "b": FIFTH, "c": NOUGHT, "d": NOUGHT})
        self.assertEqual(tuned(read(FOUR + "pure b a 3/2"))["b"], (1, -1, 0, 0))

    def test_ties_of_all_words(self):
        song = read("note d v 0 2\nnote c v 2 4\nnote b w 1 3\nnote a x 4 5\n"
                    "held c a\nstep d c 9/8\npure d b 5/4")
        need_song(song)
        self.assertEqual(list(tuned(song).items()), [("a", NOUGHT), ("b", (1, -2, 1, 0)), ("c", NOUGHT), ("d", (3, -2, 0, 0))])

    def test_parts(self):
        told = tuned(read(FOUR + "note e e 0 1\npure d b 3/2\npure c e 7/4"))
        self.assertEqual(list(told.items()), [("a", NOUGHT), ("b", NOUGHT), ("c", NOUGHT), ("d", (1, -1, 0, 0)), ("e", (-2, 0, 0, 1))])

    def test_home_is_no_tie(self):
        self.assertEqual(tuned(read(FOUR + "pure a b 3/2\npure b c 3/2\nhome a c"))["c"], (-2, 2, 0, 0))
        self.assertEqual(tuned(read(FOUR + "pure c d 3/2\nhome d a"))["c"], NOUGHT)

    def test_ties_twice(self):
        self.assertEqual(tuned(read(FOUR + "pure a b 3/2\npure a b 3/2\npure b a 2/3"))["b"], FIFTH)

    def test_rounds_that_close(self):
        told = tuned(read(FOUR + "pure a b 3/2\npure b c 3/2\npure c d 3/2\npure a d 27/8\npure c a 4/9"))
        self.assertEqual(told, {"a": NOUGHT, "b": FIFTH, "c": (-2, 2, 0, 0), "d": (-3, 3, 0, 0)})

    def test_any_song(self):
        chance = random.Random(9)
        pure = 0
        for _ in range(1500):
            song = random_song(chance, 7, 9, 0.05)
            rounds = all_rounds(links_of(song, False))
            if any(total != NOUGHT for total in rounds.values()):
                with self.assertRaises(Unpure):
                    tuned(song)
                continue
            pure += 1
            told = tuned(song)
            self.assertEqual(list(told), sorted(note[0] for note in song[0]))
            for _, one, other, ratio, _, _ in song[1]:
                self.assertEqual(told[other], tuple(have + more for have, more in zip(told[one], ratio)))
            for part in parts_of(song):
                self.assertEqual(told[part[0]], NOUGHT)
            for ratio in told.values():
                self.assertIs(ratio.__class__, tuple)
                self.assertEqual([often.__class__ for often in ratio], [int] * 4)
        self.assertGreater(pure, 500)

    def test_forty_notes_in_a_row(self):
        names = [chr(97 + at // 26) + chr(97 + at % 26) for at in range(40)]
        ties = [(one, other, FIFTH) for one, other in zip(names, names[1:])]
        song = song_of(names[::-1], ties + ties)
        need_song(song)
        self.assertEqual(tuned(song), {name: (-at, at, 0, 0) for at, name in enumerate(names)})

    def test_dicts_are_the_askers(self):
        song = read(COMMA.replace("27/10", "27/8"))
        first = tuned(song)
        kept = dict(first)
        first["a"] = FIFTH
        del first["b"]
        self.assertEqual(tuned(song), kept)
        self.assertEqual(song, read(COMMA.replace("27/10", "27/8")))


class Rounds(unittest.TestCase):
    """Promise 9."""

    def refused(self, song):
        with self.assertRaises(Unpure) as caught:
            tuned(song)
        told = caught.exception.round_of
        self.assertIs(told.__class__, list)
        self.assertIs(is_round(song, told), True)
        self.assertNotEqual(round_ratio(song, told), NOUGHT)
        return told

    def test_two_ties_between_two_notes(self):
        told = self.refused(read(FOUR + "pure a b 3/2\npure a b 4/3"))
        self.assertIn(told, ([(0, 1), (1, -1)], [(1, -1), (0, 1)], [(0, -1), (1, 1)], [(1, 1), (0, -1)]))
        told = self.refused(read(FOUR + "pure a b 3/2\npure b a 3/2"))
        self.assertIn(told, ([(0, 1), (1, 1)], [(1, 1), (0, 1)], [(0, -1), (1, -1)], [(1, -1), (0, -1)]))

    def test_longer_rounds(self):
        told = self.refused(read(COMMA))
        self.assertEqual(sorted(number for number, _ in told), [0, 1, 2, 3])
        self.assertIn(round_ratio(read(COMMA), told), (ratio_of(5, 4), ratio_of(4, 5)))

    def test_a_round_that_hangs_on_a_tail(self):
        song = read(FOUR + "note e e 0 1\npure a b 3/2\npure b c 3/2\npure c d 3/2\npure d e 5/4\npure e c 5/4")
        told = self.refused(song)
        self.assertEqual(sorted(number for number, _ in told), [2, 3, 4])

    def test_a_round_in_a_later_part(self):
        song = read(FOUR + "pure a b 3/2\npure d c 3/2\npure d c 4/3\nhome a b")
        self.assertEqual(sorted(number for number, _ in self.refused(song)), [1, 2])

    def test_the_least_of_several(self):
        song = read(COMMA + "pure a c 5/4\n")
        self.assertEqual(len(self.refused(song)), 3)
        song = read(COMMA + "pure a c 9/4\n")
        self.assertEqual(sorted(number for number, _ in self.refused(song)), [2, 3, 4])
        song = read(COMMA + "pure a c 5/4\npure c b 3/2")
        self.assertEqual(sorted(number for number, _ in self.refused(song)), [1, 5])

    def test_a_pure_round_is_less_but_can_be(self):
        song = read(FOUR + "pure a b 3/2\npure a b 3/2\npure b c 5/4\npure a c 2/1")
        self.assertEqual(len(self.refused(song)), 3)

    def test_home_is_no_tie_of_it(self):
        self.assertEqual(len(self.refused(read(COMMA + "home a d"))), 4)
        self.assertEqual(len(tuned(read(FOUR + "pure a b 3/2\nhome a b"))), 4)

    def test_as_few_ties_as_can_be(self):
        chance = random.Random(10)
        lengths = dict.fromkeys(range(2, 7), 0)
        songs = [random_song(chance, 6, 9, spread) for spread in (0.05, 0.15, 0.5, 1) for _ in range(300)]
        songs += [ring_song(chance) for _ in range(600)]
        for song in songs:
            rounds = all_rounds(links_of(song, False))
            wrong = [list(steps) for steps, total in rounds.items() if total != NOUGHT]
            if not wrong:
                self.assertEqual(len(tuned(song)), len(song[0]))
                continue
            told = self.refused(song)
            self.assertIn(told, wrong)
            self.assertEqual(len(told), min(len(one) for one in wrong))
            lengths[len(told)] += 1
        self.assertGreater(min(lengths.values()), 20)

    def test_a_round_of_forty(self):
        names = [chr(97 + at // 26) + chr(97 + at % 26) for at in range(40)]
        ties = [(one, other, FIFTH) for one, other in zip(names, names[1:] + names[:1])]
        song = song_of(names, ties + ties)
        need_song(song)
        self.assertEqual(len(self.refused(song)), 40)

    def test_a_full_song(self):
        chance = random.Random(11)
        names = [chr(97 + at // 26) + chr(97 + at % 26) for at in range(40)]
        song = song_of(names, [(*chance.sample(names, 2), FIFTH) for _ in range(80)])
        need_song(song)
        self.refused(song)

    def test_the_same_one_each_time(self):
        song = read(COMMA + "pure a c 5/4\npure b d 5/4\nheld a b")
        first = self.refused(song)
        kept = list(first)
        first.clear()
        self.assertEqual(self.refused(song), kept)
        self.assertEqual(self.refused(read(COMMA + "pure a c 5/4\npure b d 5/4\nheld a b")), kept)


class RoundRatio(unittest.TestCase):
    def test_forth_and_back(self):
        song = read(FOUR + "pure a b 3/2\npure b c 5/4\npure a c 7/4\nhome a c")
        self.assertEqual(round_ratio(song, [(0, 1), (1, 1), (2, -1)]), ratio_of(15, 14))
        self.assertEqual(round_ratio(song, [(2, 1), (1, -1), (0, -1)]), ratio_of(14, 15))
        self.assertEqual(round_ratio(song, [(1, 1), (2, -1), (0, 1)]), ratio_of(15, 14))
        self.assertEqual(round_ratio(song, [(2, 1), (3, -1)]), ratio_of(7, 4))
        self.assertEqual(round_ratio(song, [(3, 1), (1, -1), (0, -1)]), ratio_of(8, 15))

    def test_any_rounds(self):
        chance = random.Random(12)
        for _ in range(200):
            song = random_song(chance, 5, 7, 0.5)
            for steps, total in all_rounds(links_of(song, True)).items():
                one = list(steps)
                self.assertEqual(round_ratio(song, one), total)
                self.assertEqual(one, list(steps))


class IsRound(unittest.TestCase):
    SONG = read(FOUR + "pure a b 3/2\npure b c 3/2\npure a c 9/4\npure c d 5/4\npure d a 5/4\nhome a c")
    BARE = (SONG[0], SONG[1], None)

    def check(self, told, good, home_good=None):
        for _ in range(2):
            self.assertIs(is_round(self.SONG, told), good)
            self.assertIs(is_round(self.SONG, told, False), good)
            self.assertIs(is_round(self.SONG, told, True), good if home_good is None else home_good)
            self.assertIs(is_round(self.BARE, told), good)
            self.assertIs(is_round(self.BARE, told, True), good)

    def test_rounds(self):
        self.check([(0, 1), (1, 1), (2, -1)], True)
        self.check([(1, 1), (2, -1), (0, 1)], True)
        self.check([(2, 1), (1, -1), (0, -1)], True)
        self.check([(0, 1), (1, 1), (3, 1), (4, 1)], True)
        self.check([(2, 1), (3, 1), (4, 1)], True)

    def test_with_home(self):
        self.check([(2, 1), (5, -1)], False, True)
        self.check([(5, -1), (2, 1)], False, True)
        self.check([(0, 1), (1, 1), (5, -1)], False, True)
        self.check([(3, 1), (4, 1), (5, 1)], False, True)
        self.check([(2, 1), (5, 1)], False, False)
        self.check([(5, 1), (5, -1)], False, False)
        self.check([(2, 1), (6, -1)], False, False)

    def test_what_is_no_list(self):
        for told in (None, 0, 1, "", "ab", (), ((0, 1), (1, 1), (2, -1)), {}, {0: 1}, {(0, 1), (1, 1), (2, -1)}, True):
            self.check(told, False)

    def test_lists_that_are_too_short(self):
        self.check([], False)
        for number in range(6):
            for forth in (1, -1):
                self.check([(number, forth)], False)

    def test_what_is_no_step(self):
        for wrong in (None, 0, "01", (), (0,), (0, 1, 1), [0, 1], (0, 0), (0, 2), (0, -2), (-1, 1), (-6, 1), (6, 1), (7, 1),
                      (99, 1), (10 ** 40, 1), (0, None), (None, 1), ("0", 1), (0, "1"), ((0,), 1), (0, [1]), ([], {}),
                      (True, 1), (False, 1), (0, True), (0, False)):
            self.check([wrong, (1, 1), (2, -1)], False)
            self.check([(1, 1), (2, -1), wrong], False)
            self.check([(2, 1), (1, -1), wrong], False)
            self.check([wrong, wrong], False)
            self.check([wrong], False)

    def test_truths_for_numbers(self):
        self.check([(False, 1), (1, 1), (2, -1)], False)
        self.check([(0, True), (1, True), (2, -1)], False)
        self.check([(0, 1), (True, 1), (2, -1)], False)

    def test_ways_that_break(self):
        self.check([(0, 1), (2, -1), (1, 1)], False)
        self.check([(0, 1), (1, 1)], False)
        self.check([(0, 1), (1, 1), (2, 1)], False)
        self.check([(0, -1), (1, 1), (2, -1)], False)
        self.check([(0, 1), (1, 1), (3, 1)], False)
        self.check([(0, 1), (3, 1)], False)

    def test_a_tie_twice(self):
        self.check([(0, 1), (0, -1)], False)
        self.check([(0, 1), (1, 1), (1, -1), (0, -1)], False)
        self.check([(0, 1), (1, 1), (2, -1)] * 2, False)

    def test_a_note_twice(self):
        song = read(FOUR + "note e e 0 1\npure a b 1/1\npure b c 1/1\npure c a 1/1\npure a d 1/1\npure d e 1/1\npure e a 1/1")
        self.assertIs(is_round(song, [(0, 1), (1, 1), (2, 1)]), True)
        self.assertIs(is_round(song, [(3, 1), (4, 1), (5, 1)]), True)
        self.assertIs(is_round(song, [(0, 1), (1, 1), (2, 1), (3, 1), (4, 1), (5, 1)]), False)
        self.assertIs(is_round(song, [(1, 1), (2, 1), (3, 1), (4, 1), (5, 1), (0, 1)]), False)

    def test_two_rounds_beside(self):
        song = read(FOUR + "pure a b 1/1\npure a b 1/1\npure c d 1/1\npure c d 1/1")
        self.assertIs(is_round(song, [(0, 1), (1, -1)]), True)
        self.assertIs(is_round(song, [(3, -1), (2, 1)]), True)
        self.assertIs(is_round(song, [(0, 1), (1, -1), (2, 1), (3, -1)]), False)

    def test_a_song_without_ties(self):
        for song in (read(""), read(FOUR), read(FOUR + "home a b")):
            for told in ([], [(0, 1)], [(0, 1), (0, -1)], [(0, 1), (1, -1)], None):
                for home in (False, True):
                    self.assertIs(is_round(song, told, home), False)

    def test_any_lists(self):
        chance = random.Random(13)
        good = 0
        for _ in range(300):
            song = random_song(chance, 4, 6, 0.5)
            for home in (False, True):
                links = links_of(song, home)
                rounds = all_rounds(links)
                for steps in rounds:
                    self.assertIs(is_round(song, list(steps), home), True)
                for _ in range(40):
                    told = [(chance.randrange(-1, len(links) + 1), chance.choice((1, -1)))
                            for _ in range(chance.randrange(2, 4))]
                    self.assertIs(is_round(song, told, home), tuple(told) in rounds)
                    good += tuple(told) in rounds
        self.assertGreater(good, 100)

    def test_nothing_is_changed(self):
        told = [(0, 1), (1, 1), (2, -1)]
        is_round(self.SONG, told, True)
        self.assertEqual(told, [(0, 1), (1, 1), (2, -1)])


class Straight(unittest.TestCase):
    def test_unpure_is_a_song_error(self):
        with self.assertRaises(SongError):
            tuned(read(COMMA))


if __name__ == "__main__":
    unittest.main()
