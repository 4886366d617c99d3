"""Promise 15, with 6: a house, whose ties come and go."""

import copy
import random
import unittest

import sums
from choirtrue.bending import brought, cost
from choirtrue.errors import BadSong, NoHome, NoTie, SongError, TooTight, Unpure
from choirtrue.house import House
from choirtrue.papers import is_right
from choirtrue.reading import read
from choirtrue.sinking import lost, sink
from choirtrue.songs import need_song
from choirtrue.tuning import tuned

NOTES = "note c alto 0 4\nnote e tenor 2 6\nnote d alto 4 8\nnote g tenor 6 8\n"
SONG = read(NOTES + "pure c e 5/4\nstep c d 9/8\nstep e g 6/5\npure d g 4/3\nhome c g")
# It sinks by a comma, which its bends can take away.
PUMP = read("note c alto 0 2\nnote g tenor 0 4\nnote d alto 2 6\nnote a tenor 4 8\nnote e bass 6 8\nnote f alto 6 8\n"
            "pure c g 3/2 bend 9000\npure d g 4/3 bend 9000\npure d a 3/2 bend 9000 weight 2\n"
            "pure e a 4/3 bend 9000 weight 3\npure f e 5/4 bend 9000 weight 4\nhome c f")
FIFTH = (-1, 1, 0, 0)
GOOD = ("pure", "c", "e", FIFTH, 50, 1)


def told_of(ask):
    """What a house tells, or how it refuses."""
    try:
        return ask()
    except SongError as refusal:
        return (refusal.__class__, getattr(refusal, "round_of", None))


def need_alike(case, house, song):
    """All that a house tells is what is told of the song."""
    case.assertEqual(house.song(), song)
    case.assertEqual(told_of(house.tuned), told_of(lambda: tuned(song)))
    case.assertEqual(told_of(house.sink), told_of(lambda: sink(song)))
    case.assertEqual(told_of(house.brought), told_of(lambda: brought(song)))
    for bound in (0, 1000, 10 ** 8):
        case.assertEqual(told_of(lambda: house.lost(bound)), told_of(lambda: lost(song, bound)))


def may_stand(song, tie):
    """Whether need_song lets a song by with one more tie."""
    try:
        need_song((song[0], (*song[1], tie), song[2]))
    except BadSong:
        return False
    return True


class Told(unittest.TestCase):
    def test_a_song_as_it_is(self):
        for song in (SONG, PUMP, read(""), read(NOTES), read(NOTES + "home c g"), read("note a v 0 1")):
            house = House(song)
            for _ in range(2):
                need_alike(self, house, song)
        self.assertEqual(House(SONG).sink(), FIFTH)
        self.assertEqual(House(SONG).lost(701955), 2)
        self.assertIs(House(SONG).song().__class__, tuple)

    def test_refusals(self):
        house = House(read(NOTES + "pure c e 5/4"))
        for ask in (house.sink, lambda: house.lost(0)):
            with self.assertRaises(NoHome):
                ask()
        house = House(read(NOTES + "pure c e 5/4\npure c e 6/5\nhome c g"))
        for ask in (house.tuned, house.sink, lambda: house.lost(0)):
            with self.assertRaises(Unpure) as caught:
                ask()
            self.assertEqual(sorted(number for number, _ in caught.exception.round_of), [0, 1])
        with self.assertRaises(TooTight):
            house.brought()
        house = House(read(NOTES + "pure c e 5/4\nhome c g"))
        with self.assertRaises(NoHome):
            house.sink()

    def test_two_houses_of_one_song(self):
        one, other = House(SONG), House(SONG)
        one.put(GOOD)
        one.take(0)
        need_alike(self, other, SONG)
        other.take(3)
        need_alike(self, one, (SONG[0], SONG[1][1:] + (GOOD,), SONG[2]))
        need_alike(self, other, (SONG[0], SONG[1][:3], SONG[2]))

    def test_dicts_and_lists_are_the_askers(self):
        house = House(SONG)
        house.tuned().clear()
        house.tuned()["c"] = FIFTH
        need_alike(self, house, SONG)
        house.put(GOOD)
        for ask in (house.tuned, house.brought):
            with self.assertRaises(SongError) as caught:
                ask()
            caught.exception.round_of.clear()
        need_alike(self, house, (SONG[0], SONG[1] + (GOOD,), SONG[2]))

    def test_what_was_told_stays(self):
        house = House(PUMP)
        told, paper, tuning = house.song(), house.brought(), house.tuned()
        kept = copy.deepcopy((told, paper, tuning))
        house.put(("pure", "d", "g", FIFTH, 9999, 1))
        house.take(0)
        self.assertEqual((told, paper, tuning), kept)
        self.assertEqual(told, PUMP)

    def test_a_song_that_is_none(self):
        for text, row in (("note a v 1 1", ("note", 0)), ("note a v 0 1\nnote a w 0 1", ("note", 1)),
                          ("note a v 0 1\nheld a b", ("tie", 0)), (NOTES + "pure c e 5/4\npure c d 9/8", ("tie", 1)),
                          (NOTES + "home c c", ("home", 0)), (NOTES + "home c x", ("home", 0)),
                          (NOTES + "pure c e 5/4\n" * 81, ("tie", 80))):
            with self.assertRaises(BadSong) as caught:
                House(read(text))
            self.assertEqual(caught.exception.row, row)

    def test_papers_are_right(self):
        house = House(PUMP)
        self.assertIs(is_right(PUMP, house.brought()), True)
        self.assertEqual(cost(PUMP, dict(house.brought()[0])), 9000 + 9000 + 3506 * 2)
        house.put(("pure", "g", "c", FIFTH, 9999, 1))
        with self.assertRaises(TooTight):
            house.brought()
        house.take(5)
        house.take(0)
        self.assertIs(is_right(house.song(), house.brought()), True)
        self.assertIs(is_right(PUMP, house.brought()), False)


class Put(unittest.TestCase):
    def check_no_tie(self, song, told):
        house = House(song)
        for _ in range(2):
            with self.assertRaises(NoTie) as caught:
                house.put(told)
            self.assertIs(caught.exception.__class__, NoTie)
        self.assertEqual(house.song(), song)

    def check(self, song, tie):
        house = House(song)
        self.assertIsNone(house.put(tie))
        need_alike(self, house, (song[0], song[1] + (tie,), song[2]))

    def test_ties_that_may_stand(self):
        for tie in (GOOD, ("pure", "e", "c", (0, 0, 0, 0), 0, 9), ("pure", "e", "d", (13, 0, 0, 0), 9999, 1),
                    ("step", "c", "d", (3, -2, 0, 0), 0, 1), ("step", "e", "g", (0, 0, 0, 0), 9999, 9),
                    ("held", "c", "d", (0, 0, 0, 0), 50, 1), ("held", "c", "g", (0, 0, 0, 0), 0, 9),
                    ("pure", "d", "g", (-13, 0, 0, 0), 1, 5), ("pure", "d", "g", (0, 8, 0, 0), 1, 5),
                    ("pure", "d", "g", (0, 0, 5, -4), 1, 5), ("pure", "d", "g", (0, -4, 0, 4), 1, 5),
                    ("pure", "d", "g", (2, -5, 4, 0), 1, 5)):
            self.check(SONG, tie)
            self.check(read(NOTES), tie)

    def test_ties_that_may_not(self):
        for tie in (("held", "c", "e", (0, 0, 0, 0), 50, 1), ("held", "d", "c", (0, 0, 0, 0), 50, 1),
                    ("step", "c", "g", (0, 0, 0, 0), 50, 1), ("step", "c", "e", FIFTH, 50, 1),
                    ("step", "d", "c", FIFTH, 50, 1), ("pure", "c", "d", FIFTH, 50, 1),
                    ("pure", "e", "g", FIFTH, 50, 1), ("pure", "c", "c", FIFTH, 50, 1),
                    ("held", "c", "c", (0, 0, 0, 0), 50, 1), ("step", "c", "c", FIFTH, 50, 1),
                    ("pure", "c", "f", FIFTH, 50, 1), ("pure", "f", "c", FIFTH, 50, 1),
                    ("pure", "alto", "e", FIFTH, 50, 1), ("pure", "", "e", FIFTH, 50, 1)):
            self.check_no_tie(SONG, tie)
        self.check_no_tie(read(""), GOOD)

    def test_the_edges_of_ties_behind(self):
        song = read("note a v 0 3\nnote b v 3 4\nnote c w 2 4\nnote d x 3 4")
        for tie in (("held", "a", "b", (0, 0, 0, 0), 50, 1), ("step", "a", "b", FIFTH, 50, 1),
                    ("held", "a", "d", (0, 0, 0, 0), 50, 1), ("pure", "a", "c", FIFTH, 50, 1)):
            self.check(song, tie)
        for tie in (("held", "a", "c", (0, 0, 0, 0), 50, 1), ("pure", "a", "b", FIFTH, 50, 1),
                    ("pure", "a", "d", FIFTH, 50, 1), ("step", "a", "d", FIFTH, 50, 1)):
            self.check_no_tie(song, tie)

    def test_the_eighty_first(self):
        house = House(read(NOTES))
        for _ in range(80):
            self.assertIsNone(house.put(GOOD))
        for _ in range(2):
            with self.assertRaises(NoTie):
                house.put(GOOD)
        self.assertEqual(house.song()[1], (GOOD,) * 80)
        house.take(79)
        house.put(("pure", "e", "c", FIFTH, 50, 1))
        with self.assertRaises(NoTie):
            house.put(GOOD)
        self.assertEqual(house.song()[1], (GOOD,) * 79 + (("pure", "e", "c", FIFTH, 50, 1),))

    def test_what_is_no_tuple_of_six(self):
        for told in (None, 0, 1, True, "", "pure c e 3 / 2", b"pure", [], {}, list(GOOD), dict.fromkeys(GOOD), (), (GOOD,),
                     GOOD[:5], GOOD[:4], GOOD + (1,), GOOD + (), set(GOOD), frozenset(GOOD), NoTie, House, "abcdef"):
            if told != GOOD:
                self.check_no_tie(SONG, told)

    def test_other_kinds_in_each_place(self):
        for at in range(6):
            for wrong in (None, "", "x", "home", "note", b"pure", [], {}, (), ("pure",), ["c"], {"c": 1}, (0, 0, 0), True, False, -1,
                          10 ** 30, -10 ** 30, House, object()):
                if not (at == 3 and wrong == FIFTH):
                    self.check_no_tie(SONG, GOOD[:at] + (wrong,) + GOOD[at + 1:])

    def test_words(self):
        for word in ("home", "note", "bend", "weight", "Pure", "pures", "pur", " held", "", 0, ("pure",), ["held"]):
            self.check_no_tie(SONG, (word, *GOOD[1:]))
            # One behind the other, as held ones and steps are.
            self.check_no_tie(SONG, (word, "c", "d", (0, 0, 0, 0), 50, 1))

    def test_ratios(self):
        for ratio in ((), (0,), (0, 0, 0), (0, 0, 0, 0, 0), [0, 0, 0, 0], [-1, 1, 0, 0], "0000", None, 0, (0, 0, 0, None),
                      (0, 0, 0, "0"), (True, 0, 0, 0), (0, False, 0, 0), (0, 0, (0,), 0), (0, 0, [], 0), {0: 1, 1: 1, 2: 1, 3: 1},
                      (14, 0, 0, 0), (-14, 0, 0, 0), (0, 9, 0, 0), (0, -9, 0, 0), (0, 0, 6, 0), (0, 0, -6, 0), (0, 0, 0, 5),
                      (0, 0, 0, -5), (13, 1, 0, 0), (-13, -1, 0, 0), (1, 8, 0, 0), (2, 0, 5, 0), (0, 2, 0, 4), (-1, 0, 0, 5), (10, 1, 1, 0),
                      (10 ** 30, 0, 0, 0), (0, -10 ** 30, 0, 0), (10 ** 9, -10 ** 9, 0, 0), (5, -5, 5, -5), (13, -9, 0, 0)):
            self.check_no_tie(SONG, ("pure", "c", "e", ratio, 50, 1))
            self.check_no_tie(SONG, ("step", "c", "d", ratio, 50, 1))

    def test_any_ratio(self):
        chance = random.Random(41)
        good = 0
        for _ in range(600):
            ratio = tuple(chance.randrange(-5, 6) for _ in range(4))
            if sums.can_be_read(ratio):
                self.check(read(NOTES), ("pure", "c", "e", ratio, 50, 1))
                good += 1
            else:
                self.check_no_tie(read(NOTES), ("pure", "c", "e", ratio, 50, 1))
        self.assertGreater(good, 50)

    def test_held_ones_have_no_ratio(self):
        for ratio in (FIFTH, (1, 0, 0, 0), (0, 0, 0, -1), (0, 0, 0), (0, False, 0, 0), [0, 0, 0, 0], None):
            self.check_no_tie(SONG, ("held", "c", "d", ratio, 50, 1))

    def test_bends_and_weights(self):
        for bend in (-1, 10000, 10 ** 30, None, "50", True, False, (50,), [50]):
            self.check_no_tie(SONG, ("pure", "c", "e", FIFTH, bend, 1))
        for weight in (0, -1, 10, 10 ** 30, None, "1", True, False, (1,), [1]):
            self.check_no_tie(SONG, ("pure", "c", "e", FIFTH, 50, weight))
        for bend in (0, 1, 50, 9999):
            for weight in (1, 9):
                self.check(SONG, ("pure", "c", "e", FIFTH, bend, weight))

    def test_refusals_change_nothing(self):
        house = House(SONG)
        house.put(GOOD)
        for told in (None, ("pure", "c", "d", FIFTH, 50, 1), ("held", "c", "d", FIFTH, 50, 1), list(GOOD)):
            with self.assertRaises(NoTie):
                house.put(told)
            need_alike(self, house, (SONG[0], SONG[1] + (GOOD,), SONG[2]))

    def test_nothing_that_is_handed_in_is_changed(self):
        song, tie = copy.deepcopy((SONG, GOOD))
        house = House(song)
        house.put(tie)
        house.take(0)
        self.assertEqual((song, tie), (SONG, GOOD))
        told = list(GOOD)
        with self.assertRaises(NoTie):
            house.put(told)
        self.assertEqual(told, list(GOOD))


class Take(unittest.TestCase):
    def test_those_behind_move_up(self):
        house = House(SONG)
        ties = list(SONG[1])
        for number in (1, 2, 0, 0):
            self.assertIsNone(house.take(number))
            del ties[number]
            need_alike(self, house, (SONG[0], tuple(ties), SONG[2]))
        with self.assertRaises(NoTie):
            house.take(0)

    def test_what_is_no_number_of_a_tie(self):
        house = House(SONG)
        for told in (-1, -4, 4, 5, 99, 10 ** 30, -10 ** 30, True, False, None, "0", "", (0,), [0], {}, SONG[1][0], House, object()):
            for _ in range(2):
                with self.assertRaises(NoTie) as caught:
                    house.take(told)
                self.assertIs(caught.exception.__class__, NoTie)
        need_alike(self, house, SONG)

    def test_home_is_no_tie(self):
        house = House(read(NOTES + "home c g"))
        with self.assertRaises(NoTie):
            house.take(0)
        self.assertEqual(house.song()[2], ("c", "g"))

    def test_numbers_as_they_are_then(self):
        house = House(read(NOTES + "pure c e 5/4\npure c e 6/5\npure d g 4/3\nhome c g"))
        with self.assertRaises(Unpure) as caught:
            house.tuned()
        self.assertEqual(sorted(number for number, _ in caught.exception.round_of), [0, 1])
        house.put(("pure", "d", "g", FIFTH, 50, 1))
        house.take(0)
        with self.assertRaises(Unpure) as caught:
            house.tuned()
        self.assertEqual(sorted(number for number, _ in caught.exception.round_of), [1, 2])
        with self.assertRaises(TooTight) as caught:
            house.brought()
        self.assertEqual(sorted(number for number, _ in caught.exception.round_of), [1, 2])
        house.take(2)
        house.put(("held", "c", "g", (0, 0, 0, 0), 50, 1))
        house.put(("pure", "g", "d", FIFTH, 50, 1))
        house.take(1)
        house.put(("pure", "e", "c", (0, 0, 0, 0), 0, 1))
        with self.assertRaises(TooTight) as caught:
            house.brought()
        self.assertEqual(sorted(number for number, _ in caught.exception.round_of), [0, 3])

    def test_back_and_forth(self):
        house = House(PUMP)
        tuning, paper = house.tuned(), house.brought()
        house.put(("pure", "g", "c", FIFTH, 9999, 1))
        for ask in (house.tuned, house.brought):
            with self.assertRaises(SongError):
                ask()
        house.take(5)
        self.assertEqual((house.song(), house.tuned(), house.brought()), (PUMP, tuning, paper))

    def test_whatever_comes_and_goes(self):
        chance = random.Random(42)
        house, song = House(SONG), SONG
        taken = put = refused = 0
        for _ in range(400):
            notes, ties, home = song
            if chance.random() < 0.5:
                tie = (chance.choice(("held", "pure", "step")), chance.choice("cdeg"), chance.choice("cdeg"),
                       chance.choice(((0, 0, 0, 0), FIFTH, (-2, 0, 1, 0), (3, -2, 0, 0))), chance.choice((0, 50, 9999)), chance.randrange(1, 10))
                if may_stand(song, tie) and (tie[0] != "held" or tie[3] == (0, 0, 0, 0)):
                    self.assertIsNone(house.put(tie))
                    song = (notes, ties + (tie,), home)
                    put += 1
                else:
                    with self.assertRaises(NoTie):
                        house.put(tie)
                    refused += 1
            else:
                number = chance.randrange(-1, 6)
                if 0 <= number < len(ties):
                    self.assertIsNone(house.take(number))
                    song = (notes, ties[:number] + ties[number + 1:], home)
                    taken += 1
                else:
                    with self.assertRaises(NoTie):
                        house.take(number)
                    refused += 1
            need_alike(self, house, song)
        self.assertGreater(min(taken, put, refused), 30)


if __name__ == "__main__":
    unittest.main()
