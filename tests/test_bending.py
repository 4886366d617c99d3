"""Promises 11 to 13: bendings, flows, and songs that are brought back."""

import copy
import random
import unittest

import sums
from choirtrue.bending import bends, brought, cost, is_flow, stands, worth
from choirtrue.errors import SongError, TooTight
from choirtrue.ratios import size
from choirtrue.reading import read
from choirtrue.songs import need_song
from choirtrue.tuning import is_round, round_ratio, tuned

FOUR = "note a a 0 1\nnote b b 0 1\nnote c c 0 1\nnote d d 0 1\n"
# Five ties round, together a comma of 81 / 80, 21506 grains, off.
FIVE = FOUR + "note e e 0 1\npure a b 3/2{}\npure b c 3/4{}\npure c d 3/2{}\npure e d 5/3{}\npure e a 1/1{}\n"


def five(*behind):
    """The song of five ties with such words behind each."""
    return read(FIVE.format(*behind))


class Bends(unittest.TestCase):
    """Promise 11: what each tie is bent."""

    def test_one_tie(self):
        song = read(FOUR + "pure a b 3/2")
        self.assertEqual(bends(song, {"a": 0, "b": 701955, "c": 0, "d": 0}), [0])
        self.assertEqual(bends(song, {"a": 0, "b": 701960, "c": 7, "d": -7}), [5])
        self.assertEqual(bends(song, {"a": 0, "b": 0, "c": 0, "d": 0}), [-701955])
        self.assertEqual(bends(song, {"a": -10, "b": 701955, "c": 0, "d": 0}), [10])

    def test_several_ties_and_home_last(self):
        song = read("home d a\n" + FOUR + "pure a b 3/2\npure c b 5/4 bend 3 weight 4\npure c d 7/4")
        told = bends(song, {"a": 1, "b": 2, "c": 4, "d": 8})
        self.assertEqual(told, [1 - 701955, -2 - 386314, 4 - 968826, -7])
        self.assertIs(told.__class__, list)

    def test_held_and_step(self):
        song = read("note a v 0 1\nnote b v 1 2\nheld a b\nstep a b 9/8")
        self.assertEqual(bends(song, {"a": 3, "b": 5}), [2, 2 - 203910])

    def test_without_ties(self):
        for text in ("", FOUR):
            song = read(text)
            self.assertEqual(bends(song, {note[0]: 5 for note in song[0]}), [])
        self.assertEqual(bends(read(FOUR + "home b a"), {"a": 7, "b": 4, "c": 0, "d": 0}), [3])

    def test_sizes_are_those_of_the_sums(self):
        for ratio in sums.COMMAS:
            self.assertEqual(size(ratio), sums.grains_of(ratio))

    def test_any_song(self):
        chance = random.Random(21)
        for _ in range(300):
            song = sums.random_song(chance, 7, 9)
            bending = {note[0]: chance.randrange(-20000, 20000) for note in song[0]}
            self.assertEqual(bends(song, bending), sums.bent_by(song, bending))
            self.assertEqual(cost(song, bending), sums.costs(song, bending))
            self.assertIs(stands(song, bending), sums.does_stand(song, bending))


class Stands(unittest.TestCase):
    """Promise 11: when a bending stands."""

    def test_just_by_its_bend(self):
        for bend in (0, 1, 50, 9999):
            song = read(FOUR + f"pure a b 3/2 bend {bend}\n")
            for off, good in ((bend, True), (-bend, True), (bend + 1, False), (-bend - 1, False)):
                self.assertIs(stands(song, {"a": 0, "b": 701955 + off, "c": 0, "d": 0}), good)

    def test_unwritten_bends(self):
        song = read(FOUR + "pure a b 3/2")
        self.assertIs(stands(song, {"a": -50, "b": 701955, "c": 0, "d": 0}), True)
        self.assertIs(stands(song, {"a": -51, "b": 701955, "c": 0, "d": 0}), False)

    def test_home_does_not_bend(self):
        song = read(FOUR + "home a b")
        self.assertIs(stands(song, {"a": 4, "b": 4, "c": 0, "d": 9}), True)
        self.assertIs(stands(song, {"a": 4, "b": 5, "c": 0, "d": 9}), False)
        self.assertIs(stands(song, {"a": 4, "b": 3, "c": 0, "d": 9}), False)

    def test_each_tie_counts(self):
        song = read(FOUR + "pure a b 1/1 bend 1\npure b c 1/1 bend 2\npure c d 1/1 bend 3")
        self.assertIs(stands(song, {"a": 0, "b": 1, "c": 3, "d": 6}), True)
        self.assertIs(stands(song, {"a": 6, "b": 5, "c": 3, "d": 0}), True)
        self.assertIs(stands(song, {"a": 0, "b": 2, "c": 3, "d": 6}), False)
        self.assertIs(stands(song, {"a": 0, "b": 1, "c": 4, "d": 6}), False)
        self.assertIs(stands(song, {"a": 0, "b": 1, "c": 3, "d": 7}), False)

    def test_without_ties(self):
        self.assertIs(stands(read(""), {}), True)
        self.assertIs(stands(read(FOUR), {"a": 1, "b": -2, "c": 3, "d": 4}), True)


class Cost(unittest.TestCase):
    """Promise 11: what a bending costs."""

    def test_weights(self):
        song = read(FOUR + "pure a b 1/1\npure b c 1/1 bend 9 weight 4\npure c d 1/1 bend 0 weight 9")
        self.assertEqual(cost(song, {"a": 0, "b": 0, "c": 0, "d": 0}), 0)
        self.assertEqual(cost(song, {"a": 5, "b": 5, "c": 5, "d": 5}), 0)
        self.assertEqual(cost(song, {"a": 0, "b": 3, "c": 3, "d": 3}), 3)
        self.assertEqual(cost(song, {"a": 3, "b": 0, "c": 0, "d": 0}), 3)
        self.assertEqual(cost(song, {"a": 0, "b": 0, "c": 3, "d": 3}), 12)
        self.assertEqual(cost(song, {"a": 0, "b": 0, "c": -3, "d": -3}), 12)
        self.assertEqual(cost(song, {"a": 0, "b": 1, "c": 3, "d": 2}), 1 + 8 + 9)

    def test_home_weighs_one(self):
        song = read(FOUR + "pure a b 3/2 bend 0 weight 2\nhome b a")
        self.assertEqual(cost(song, {"a": 0, "b": 701955, "c": 0, "d": 0}), 701955)
        self.assertEqual(cost(song, {"a": 0, "b": 0, "c": 0, "d": 0}), 2 * 701955)

    def test_it_costs_even_where_it_does_not_stand(self):
        song = read(FOUR + "pure a b 1/1 bend 1 weight 2")
        self.assertEqual(cost(song, {"a": 0, "b": 100, "c": 0, "d": 0}), 200)

    def test_without_ties(self):
        self.assertEqual(cost(read(""), {}), 0)
        self.assertEqual(cost(read(FOUR), {"a": 1, "b": 2, "c": 3, "d": 4}), 0)


class Flows(unittest.TestCase):
    """Promise 12."""

    SONG = read(FOUR + "pure a b 3/2\npure b c 3/2\npure a c 9/4\npure c d 5/4\nhome d a")

    def test_flows_that_stand(self):
        for flow in ([0, 0, 0, 0, 0], [1, 1, -1, 0, 0], [-4, -4, 4, 0, 0], [0, 0, 1, 1, 1], [2, 2, 0, 2, 2],
                     [3, 3, -1, 2, 2], [10 ** 9, 10 ** 9, -10 ** 9, 0, 0]):
            self.assertIs(is_flow(self.SONG, flow), True)

    def test_flows_that_do_not(self):
        for good in ([0, 0, 0, 0, 0], [1, 1, -1, 0, 0], [3, 3, -1, 2, 2]):
            for at in range(5):
                for off in (1, -1):
                    flow = list(good)
                    flow[at] += off
                    self.assertIs(is_flow(self.SONG, flow), False)
        for flow in ([1, 1, 1, 0, 0], [1, 0, 0, 0, 0], [0, 0, 1, 1, -1], [0, 0, 1, 1, 0], [0, 0, 0, 0, 1]):
            self.assertIs(is_flow(self.SONG, flow), False)

    def test_one_number_for_each_tie(self):
        for flow in ([], [0, 0, 0, 0], [1, 1, -1, 0], [0, 0, 0, 0, 0, 0], [1, 1, -1, 0, 0, 0]):
            self.assertIs(is_flow(self.SONG, flow), False)

    def test_without_ties(self):
        for text in ("", FOUR):
            self.assertIs(is_flow(read(text), []), True)
            self.assertEqual(worth(read(text), []), 0)
        self.assertIs(is_flow(read(FOUR + "home a b"), [0]), True)
        self.assertIs(is_flow(read(FOUR + "home a b"), [1]), False)

    def test_worth_of_what_flows_within_the_weight(self):
        song = read(FOUR + "pure a b 3/2 bend 7 weight 3\npure a b 4/3 bend 100 weight 3\n")
        fifth, fourth = 701955, 498045
        for many in range(-3, 4):
            self.assertEqual(worth(song, [many, -many]), many * fifth - many * fourth)

    def test_worth_of_what_flows_beyond_the_weight(self):
        song = read(FOUR + "pure a b 3/2 bend 7 weight 3\npure a b 4/3 bend 100 weight 5\n")
        fifth, fourth = 701955, 498045
        self.assertEqual(worth(song, [4, -4]), 4 * fifth - 4 * fourth - 7)
        self.assertEqual(worth(song, [-4, 4]), -4 * fifth + 4 * fourth - 7)
        self.assertEqual(worth(song, [5, -5]), 5 * fifth - 5 * fourth - 14)
        self.assertEqual(worth(song, [6, -6]), 6 * fifth - 6 * fourth - 21 - 100)
        self.assertEqual(worth(song, [-6, 6]), -6 * fifth + 6 * fourth - 21 - 100)
        self.assertEqual(worth(song, [-10, 10]), -10 * fifth + 10 * fourth - 49 - 500)

    def test_worth_of_what_flows_through_home(self):
        song = read(FOUR + "pure a b 3/2 bend 10\nhome a b")
        self.assertEqual(worth(song, [1, -1]), 701955)
        self.assertEqual(worth(song, [-1, 1]), -701955)
        self.assertEqual(worth(song, [5, -5]), 5 * 701955 - 40)

    def test_worth_even_where_it_does_not_stand(self):
        song = read(FOUR + "pure a b 3/2 bend 10\nhome a b")
        self.assertEqual(worth(song, [1, 0]), 701955)
        self.assertEqual(worth(song, [0, 9]), 0)

    def test_any_flow(self):
        chance = random.Random(22)
        stood = 0
        for _ in range(400):
            song = sums.random_song(chance, 5, 7)
            flow = [chance.randrange(-15, 16) for _ in sums.links_of(song)]
            if chance.random() < 0.5:
                flow = [chance.randrange(-1, 2) for _ in flow]
            self.assertIs(is_flow(song, flow), sums.does_flow(song, flow))
            self.assertEqual(worth(song, flow), sums.is_worth(song, flow))
            stood += is_flow(song, flow)
        self.assertGreater(stood, 20)

    def test_no_bending_costs_less_than_a_flow_is_worth(self):
        chance = random.Random(23)
        tested = 0
        while tested < 200:
            song = sums.random_song(chance, 4, 3, 30)
            song = (song[0], tuple((*tie[:3], (0, 0, 0, 0), *tie[4:]) for tie in song[1]), song[2])
            flow = [chance.randrange(-12, 13) for _ in sums.links_of(song)]
            bending = {note[0]: chance.randrange(0, 12) for note in song[0]}
            if flow and any(flow) and is_flow(song, flow) and stands(song, bending):
                self.assertGreaterEqual(cost(song, bending), worth(song, flow))
                tested += 1


class Checked(unittest.TestCase):
    def check(self, song, costs=None):
        """The paper of a song, of which all that is promised holds by the sums of the tests alone."""
        paper = brought(song)
        self.assertIs(paper.__class__, tuple)
        rows, flow = paper
        self.assertIs(rows.__class__, tuple)
        self.assertIs(flow.__class__, tuple)
        self.assertEqual([row.__class__ for row in rows], [tuple] * len(rows))
        self.assertEqual([name for name, _ in rows], sorted(note[0] for note in song[0]))
        self.assertEqual({number.__class__ for number in [grains for _, grains in rows] + list(flow)} - {int}, set())
        bending = dict(rows)
        self.assertEqual(len(flow), len(sums.links_of(song)))
        self.assertTrue(sums.does_stand(song, bending))
        self.assertTrue(sums.does_flow(song, flow))
        self.assertEqual(sums.costs(song, bending), sums.is_worth(song, flow))
        self.assertIs(stands(song, bending), True)
        self.assertIs(is_flow(song, list(flow)), True)
        self.assertEqual(cost(song, bending), worth(song, list(flow)))
        for part in sums.parts_by_home(song):
            self.assertEqual(bending[min(part)], 0)
        self.assertEqual(brought(song), paper)
        self.assertEqual(brought(copy.deepcopy(song)), paper)
        if costs is not None:
            self.assertEqual(cost(song, bending), costs)
        return paper

    def check_tight(self, song):
        with self.assertRaises(TooTight) as caught:
            brought(song)
        told = caught.exception.round_of
        self.assertIs(told.__class__, list)
        self.assertTrue(sums.is_tight_round(song, told))
        self.assertIs(is_round(song, told, True), True)
        links = sums.links_of(song)
        self.assertGreater(abs(size(round_ratio(song, told))), sum(links[number][3] for number, _ in told))
        with self.assertRaises(TooTight) as again:
            brought(copy.deepcopy(song))
        self.assertEqual(again.exception.round_of, told)
        return told


class Brought(Checked):
    """Promise 13: songs of which a bending stands."""

    def test_without_notes_and_with_one(self):
        self.assertEqual(self.check(read(""), 0), ((), ()))
        self.assertEqual(self.check(read("note a v 0 1"), 0), ((("a", 0),), ()))

    def test_without_ties(self):
        self.assertEqual(self.check(read("note b b 0 1\nnote a a 0 1"), 0), ((("a", 0), ("b", 0)), ()))
        rows, flow = self.check(read("note b b 0 1\nnote a a 0 1\nhome b a"), 0)
        self.assertEqual((rows, flow[0]), ((("a", 0), ("b", 0)), 0))

    def test_songs_that_are_pure_cost_nothing(self):
        for text in ("pure a b 3/2", "pure b a 3/2\npure b c 5/4\npure d c 7/4", "pure a b 3/2 bend 0\npure c d 3/2 bend 0",
                     "pure a b 3/2 bend 0\npure b c 3/2 bend 0\npure a c 9/4 bend 0\npure d b 5/4 bend 9 weight 9",
                     "pure a b 3/2\npure b c 2/3\nhome a c"):
            song = read(FOUR + text)
            rows, _ = self.check(song, 0)
            told = tuned(song)
            self.assertEqual(dict(rows), {name: size(told[name]) for name in told})

    def test_the_lightest_tie_bends(self):
        # 225 / 224 is 7712 grains.
        for one, other in ((1, 9), (9, 1), (2, 3), (4, 4)):
            song = read(FOUR + f"pure a b 225/224 bend 9999 weight {one}\npure a b 1/1 bend 9999 weight {other}")
            rows, _ = self.check(song, 7712 * min(one, other))
            if one != other:
                self.assertEqual(dict(rows)["b"], 7712 if one > other else 0)

    def test_the_heavier_one_bends_where_it_must(self):
        song = read(FOUR + "pure a b 225/224 bend 5000 weight 2\npure b a 1/1 bend 9999 weight 7")
        rows, _ = self.check(song, 5000 * 2 + 2712 * 7)
        self.assertEqual(dict(rows)["b"], 2712)

    def test_a_comma_goes_by_the_lightest_of_five(self):
        song = five(" bend 9999 weight 5", " bend 9999 weight 4", " bend 9999 weight 1", " bend 9999 weight 2", " bend 9999 weight 3")
        self.check(song, 9999 * 1 + 9999 * 2 + 1508 * 3)
        song = five(" bend 9999 weight 1", " bend 9999 weight 9", " bend 9999 weight 1", " bend 9999 weight 1", " bend 9999 weight 9")
        self.check(song, 21506)
        song = five(" bend 9000 weight 9", " bend 0", " bend 9000 weight 8", " bend 3506 weight 7", " bend 0")
        self.check(song, 9000 * 9 + 9000 * 8 + 3506 * 7)

    def test_a_tie_that_bends_for_two_rounds(self):
        # Two ties of weight 2 each are spared by one of weight 3.
        song = read(FOUR + "pure a b 225/224 bend 9999 weight 2\npure a b 225/224 bend 9999 weight 2\n"
                           "pure a b 1/1 bend 9999 weight 3")
        rows, _ = self.check(song, 7712 * 3)
        self.assertEqual(dict(rows)["b"], 7712)

    def test_home_does_not_bend(self):
        song = read(FOUR + "pure a b 225/224 bend 7712 weight 4\nhome a b")
        rows, flow = self.check(song, 7712 * 4)
        self.assertEqual(rows[:2], (("a", 0), ("b", 0)))
        self.assertEqual(flow[0], -flow[1])
        self.check(read(FOUR + "pure a b 225/224 bend 7712 weight 4\nhome b a"), 7712 * 4)

    def test_home_at_the_end_of_several_ties(self):
        song = five(*[" bend 9999 weight 2"] * 5)
        song = (song[0], song[1][:4], ("e", "a"))
        self.check(song, 21506 * 2)

    def test_parts(self):
        song = read(FOUR + "pure b d 225/224 bend 9999\npure b d 1/1 bend 9999\npure c a 3/2")
        rows, _ = self.check(song, 7712)
        self.assertEqual((dict(rows)["a"], dict(rows)["b"], dict(rows)["c"]), (0, 0, -701955))

    def test_parts_that_only_home_joins(self):
        song = read(FOUR + "pure b d 3/2\npure a c 5/4\nhome c d")
        rows, _ = self.check(song, 0)
        self.assertEqual(rows, (("a", 0), ("b", 386314 - 701955), ("c", 386314), ("d", 386314)))
        song = (*song[:2], None)
        rows, _ = self.check(song, 0)
        self.assertEqual(rows, (("a", 0), ("b", 0), ("c", 386314), ("d", 701955)))

    def test_notes_in_another_order(self):
        song = read("note d d 0 1\nnote b b 0 1\nnote c c 0 1\nnote a a 0 1\npure d b 3/2\npure b c 3/2\npure c a 4/9")
        rows, _ = self.check(song, 0)
        self.assertEqual(rows, (("a", 0), ("b", 701955), ("c", 1403910), ("d", 0)))

    def test_ties_of_all_words(self):
        song = read("note c alto 0 4\nnote e tenor 2 6\nnote d alto 4 8\nnote g tenor 6 9\nnote f bass 8 9\n"
                    "pure c e 5/4 bend 9000\nstep c d 9/8 bend 9000 weight 3\nstep e g 6/5 bend 9000\n"
                    "pure d g 27/20 bend 9000 weight 2\npure g f 1/1\nheld c f bend 0 weight 9\nhome c f")
        need_song(song)
        # The four ties of the round are a comma off; c to f by g is a fifth that can't be bent away.
        self.assertEqual(len(self.check_tight(song)), 4)
        song = read("note c alto 0 4\nnote e tenor 2 6\nnote d alto 4 8\nnote f tenor 6 9\n"
                    "pure c e 5/4 bend 9000\nstep c d 9/8 bend 9000 weight 3\nstep e f 16/15 bend 9000\n"
                    "pure d f 6/5 bend 9000 weight 2")
        need_song(song)
        self.check(song, 9000 + 9000 + 3506 * 2)

    def test_any_song(self):
        chance = random.Random(24)
        cheap = costly = tight = 0
        for _ in range(900):
            song = sums.random_song(chance, chance.choice((3, 5, 8)), chance.choice((3, 6, 10)))
            if sums.is_too_tight(song):
                self.check_tight(song)
                tight += 1
            else:
                rows, _ = self.check(song)
                if cost(song, dict(rows)):
                    costly += 1
                else:
                    cheap += 1
        self.assertGreater(min(cheap, costly, tight), 50)

    def test_no_bending_near_by_costs_less(self):
        chance = random.Random(25)
        for _ in range(100):
            song = sums.random_song(chance, 5, 6)
            if sums.is_too_tight(song):
                continue
            bending = dict(self.check(song)[0])
            for _ in range(50):
                other = {name: bending[name] + chance.choice((0, 1, -1, 721, -7712)) for name in bending}
                if sums.does_stand(song, other):
                    self.assertLessEqual(sums.costs(song, bending), sums.costs(song, other))

    def test_forty_notes_and_eighty_ties(self):
        chance = random.Random(26)
        for more in (0, 0, 0, 100, 3000):
            song = sums.full_song(chance, more)
            need_song(song)
            self.assertEqual((len(song[0]), len(song[1])), (40, 80))
            rows, _ = self.check(song)
            self.assertGreater(cost(song, dict(rows)), 0)

    def test_a_row_of_forty(self):
        names = [chr(97 + at // 26) + chr(97 + at % 26) for at in range(40)]
        ties = [(one, other, (-1, 1, 0, 0), 0, 1) for one, other in zip(names, names[1:])]
        rows, _ = self.check(sums.song_of(names[::-1], ties + ties), 0)
        self.assertEqual(rows, tuple((name, 701955 * at) for at, name in enumerate(names)))

    def test_a_ring_of_forty(self):
        names = [chr(97 + at // 26) + chr(97 + at % 26) for at in range(40)]
        ties = [(one, other, (0, 0, 0, 0), 193, 1 + at % 2) for at, (one, other) in enumerate(zip(names, names[1:] + names[:1]))]
        ties[7] = (*ties[7][:2], (-5, 2, 2, -1), 193, 2)
        # 7712 is 39 times 193 and 185 more.
        self.check(sums.song_of(names, ties), 193 * 20 + 193 * 19 * 2 + 185 * 2)
        ties = [(one, other, ratio, 192, weight) for one, other, ratio, _, weight in ties]
        told = self.check_tight(sums.song_of(names, ties))
        self.assertEqual(len(told), 40)

    def test_songs_of_eighty_ties_that_are_too_tight(self):
        chance = random.Random(27)
        for _ in range(4):
            song = sums.full_song(chance)
            # A way round by a comma more than all bends together.
            ties = [(*tie[:4], 0, tie[5]) for tie in song[1]]
            ties[0] = (*ties[0][:3], tuple(often - off for often, off in zip(ties[0][3], (-4, 4, -1, 0))), 0, 1)
            self.check_tight((song[0], tuple(ties), song[2]))


class Tight(Checked):
    """Promise 13: songs of which no bending stands, and such as are just not too tight."""

    def test_two_ties(self):
        text = FOUR + "pure a b 225/224 bend {}\npure a b 1/1 bend {}"
        for one, other in ((3856, 3856), (0, 7712), (7712, 0), (7000, 712)):
            self.check(read(text.format(one, other)), 7712)
        for one, other in ((3856, 3855), (0, 7711), (7711, 0), (7000, 711), (0, 0)):
            told = self.check_tight(read(text.format(one, other)))
            self.assertEqual(sorted(number for number, _ in told), [0, 1])

    def test_two_ties_against_each_other(self):
        text = FOUR + "pure a b 225/224 bend 100\npure b a 1/1 bend {}"
        self.check(read(text.format(7612)), 7712)
        told = self.check_tight(read(text.format(7611)))
        self.assertIn(sorted(told), ([(0, 1), (1, 1)], [(0, -1), (1, -1)]))

    def test_either_way(self):
        for ratio in ("225/224", "224/225"):
            for notes in ("a b", "b a"):
                text = FOUR + f"pure {notes} {ratio} bend 7711\npure a b 1/1 bend "
                self.check(read(text + "1"), 7712)
                self.check_tight(read(text + "0"))

    def test_five_ties(self):
        self.check(five(" bend 9999", " bend 507", " bend 1000", " bend 1", " bend 9999"), 21506)
        told = self.check_tight(five(" bend 9999", " bend 507", " bend 1000", " bend 0", " bend 9999"))
        self.assertEqual(sorted(number for number, _ in told), [0, 1, 2, 3, 4])
        self.check_tight(five("", "", "", "", ""))

    def test_a_round_through_home(self):
        for home in ("a b", "b a"):
            text = FOUR + "pure a b 225/224 bend {}\npure c d 3/2\nhome " + home
            self.check(read(text.format(7712)), 7712)
            told = self.check_tight(read(text.format(7711)))
            self.assertEqual(sorted(number for number, _ in told), [0, 2])

    def test_a_longer_round_through_home(self):
        text = FOUR + "pure a b 3/2 bend {}\npure c b 4/3\npure c d 3/2 bend 9999\npure d a 64/81 bend 9999\nhome c a"
        song = read(text.format(0))
        told = self.check_tight(song)
        self.assertIn(4, [number for number, _ in told])

    def test_only_one_part_is_too_tight(self):
        song = read(FOUR + "pure a b 225/224\npure c d 225/224\npure d c 1/1")
        told = self.check_tight(song)
        self.assertEqual(sorted(number for number, _ in told), [1, 2])

    def test_it_is_a_song_error(self):
        self.assertEqual(TooTight.__bases__, (SongError,))
        with self.assertRaises(SongError):
            brought(read(FOUR + "pure a b 3/2\nhome a b"))

    def test_rounds_are_the_askers(self):
        song = read(FOUR + "pure a b 3/2\nhome a b")
        with self.assertRaises(TooTight) as caught:
            brought(song)
        kept = list(caught.exception.round_of)
        caught.exception.round_of.clear()
        self.assertEqual(self.check_tight(song), kept)


if __name__ == "__main__":
    unittest.main()
