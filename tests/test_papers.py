"""Promise 14: papers, and when one is right."""

import copy
import random
import unittest

import sums
from choirtrue.bending import brought, cost, worth
from choirtrue.errors import TooTight
from choirtrue.papers import is_right
from choirtrue.reading import read

FOUR = "note d d 0 1\nnote b b 0 1\nnote c c 0 1\nnote a a 0 1\n"
# 7712 grains of a round, and as many of one through home.
SONG = read(FOUR + "pure a b 225/224 bend 4000 weight 2\npure b a 1/1 bend 9999 weight 3\npure b c 3/2\n"
            "pure a d 225/224 bend 9999 weight 2\nhome d a")
BARE = read("note a a 0 1\nnote b b 0 1\npure a b 3/2")


class Anything:
    """Calls itself the like of all."""

    def __eq__(self, other):
        return True

    def __lt__(self, other):
        return False

    __hash__ = None


def is_right_by_sums(song, told):
    rows, flow = told
    bending = dict(rows)
    return sums.does_stand(song, bending) and sums.does_flow(song, flow) and sums.costs(song, bending) == sums.is_worth(song, flow)


class IsRight(unittest.TestCase):
    def check(self, song, told, good):
        for _ in range(2):
            self.assertIs(is_right(song, told), good)

    def test_papers_that_are_told(self):
        for song in (SONG, BARE, read(""), read("note a a 0 1"), read(FOUR), read(FOUR + "home a b"), read(FOUR + "pure a b 3/2")):
            self.check(song, brought(song), True)
        self.assertGreater(cost(SONG, dict(brought(SONG)[0])), 0)

    def test_papers_of_any_song(self):
        chance = random.Random(31)
        right = 0
        for _ in range(300):
            song = sums.random_song(chance, 6, 8)
            try:
                paper = brought(song)
            except TooTight:
                continue
            self.check(song, paper, True)
            right += 1
            rows, flow = paper
            for at in range(len(rows)):
                off = chance.choice((1, -1, 50))
                told = (rows[:at] + ((rows[at][0], rows[at][1] + off),) + rows[at + 1:], flow)
                self.check(song, told, is_right_by_sums(song, told))
            for at in range(len(flow)):
                told = (rows, flow[:at] + (flow[at] + chance.choice((1, -1)),) + flow[at + 1:])
                self.check(song, told, False)
        self.assertGreater(right, 100)

    def test_written_by_hand(self):
        rows = (("a", 0), ("b", 3712), ("c", 3712 + 701955), ("d", 0))
        # The first tie bends by 4000 of 7712 at weight 2, the second by the rest at weight 3; home holds a and d.
        self.assertEqual(cost(SONG, dict(rows)), 4000 * 2 + 3712 * 3 + 7712 * 2)
        flow = (3, 3, 0, 2, 2)
        self.assertEqual(worth(SONG, list(flow)), cost(SONG, dict(rows)))
        self.check(SONG, (rows, flow), True)

    def test_another_number_for_the_least_names(self):
        rows, flow = brought(SONG)
        for off in (1, -1, 99999, -10 ** 20):
            self.check(SONG, (tuple((name, grains + off) for name, grains in rows), flow), True)
        song = read(FOUR + "pure a c 3/2\npure d b 3/2")
        rows, flow = brought(song)
        moved = {"a": 5, "c": 5, "b": -7, "d": -7}
        self.check(song, (tuple((name, grains + moved[name]) for name, grains in rows), flow), True)
        moved["c"] = 6
        self.check(song, (tuple((name, grains + moved[name]) for name, grains in rows), flow), False)

    def test_a_number_more_or_less(self):
        rows, flow = brought(SONG)
        for off in (1, -1):
            for at in range(4):
                told = rows[:at] + ((rows[at][0], rows[at][1] + off),) + rows[at + 1:]
                self.check(SONG, (told, flow), False)
            for at in range(5):
                self.check(SONG, (rows, flow[:at] + (flow[at] + off,) + flow[at + 1:]), False)

    def test_what_stands_but_is_not_the_least(self):
        rows = (("a", 0), ("b", 3713), ("c", 3713 + 701955), ("d", 0))
        self.assertTrue(sums.does_stand(SONG, dict(rows)))
        self.check(SONG, (rows, (3, 3, 0, 2, 2)), False)
        rows = (("a", 0), ("b", 3712), ("c", 3712 + 701955), ("d", 0))
        for flow in ((0, 0, 0, 0, 0), (2, 2, 0, 2, 2), (4, 4, 0, 2, 2), (3, 3, 0, 1, 1), (3, 3, 0, 3, 3), (-3, -3, 0, -2, -2)):
            self.assertTrue(sums.does_flow(SONG, flow))
            self.check(SONG, (rows, flow), False)

    def test_what_is_worth_as_much_but_does_not_flow(self):
        song = read("note a a 0 1\nnote b b 0 1\npure a b 1/1 bend 0 weight 3")
        self.check(song, ((("a", 0), ("b", 0)), (0,)), True)
        self.check(song, ((("a", 0), ("b", 0)), (1,)), False)
        self.check(song, ((("a", 0), ("b", 0)), (-3,)), False)

    def test_what_costs_as_much_but_does_not_stand(self):
        song = read("note a a 0 1\nnote b b 0 1\npure a b 225/224 bend 9999 weight 1\npure b a 1/1 bend 100 weight 1")
        self.check(song, ((("a", 0), ("b", 100)), (1, 1)), True)
        self.check(song, ((("a", 0), ("b", 101)), (1, 1)), False)
        self.check(song, ((("a", 0), ("b", 0)), (1, 1)), True)

    def test_names(self):
        rows, flow = brought(SONG)
        a, b, c, d = rows
        for told in ((b, a, c, d), (a, b, d, c), (d, c, b, a), (a, b, c), (b, c, d), (), (a, a, b, c, d), (a, b, c, d, d),
                     (a, b, c, c), (a, b, c, ("e", d[1])), (a, b, c, d, ("e", 0)), (("A", 0), b, c, d), (("", 0), b, c, d),
                     ((None, 0), b, c, d), ((0, 0), b, c, d), (((), 0), b, c, d), (([], 0), b, c, d), (({}, 0), b, c, d),
                     ((b"a", 0), b, c, d), ((("a",), 0), b, c, d), ((Anything(), 0), b, c, d)):
            self.check(SONG, (told, flow), False)
        exchanged = (("a", b[1]), ("b", a[1]), c, d)
        self.check(SONG, (exchanged, flow), False)

    def test_a_song_whose_names_are_all_alike_in_worth(self):
        song = read(FOUR)
        self.check(song, ((("a", 0), ("b", 0), ("c", 0), ("d", 0)), ()), True)
        self.check(song, ((("b", 0), ("a", 0), ("c", 0), ("d", 0)), ()), False)
        self.check(song, ((("a", 0), ("b", 0), ("d", 0), ("c", 0)), ()), False)
        self.check(song, ((("d", 0), ("b", 0), ("c", 0), ("a", 0)), ()), False)
        self.check(song, ((("a", 0), ("a", 0), ("b", 0), ("c", 0), ("d", 0)), ()), False)
        self.check(song, ((("a", 0), ("b", 0), ("c", 0)), ()), False)
        self.check(song, ((("a", 0), ("b", 0), ("c", 0), ("d", 0), ("e", 0)), ()), False)
        self.check(song, ((("a", 0), ("b", 0), ("c", 0), ("d", 0)), (0,)), False)

    def test_truths_for_numbers(self):
        song = read("note a a 0 1\nnote b b 0 1\npure a b 1/1\npure a b 1/1\nhome a b")
        self.check(song, ((("a", 0), ("b", 0)), (0, 0, 0)), True)
        self.check(song, ((("a", 1), ("b", 1)), (1, -1, 0)), True)
        for told in (((("a", False), ("b", 0)), (0, 0, 0)), ((("a", 0), ("b", False)), (0, 0, 0)),
                     ((("a", True), ("b", True)), (0, 0, 0)), ((("a", 1), ("b", True)), (0, 0, 0)),
                     ((("a", 0), ("b", 0)), (0, 0, False)), ((("a", 0), ("b", 0)), (False, 0, 0)),
                     ((("a", 0), ("b", 0)), (True, -1, 0))):
            self.check(song, told, False)

    def test_other_things_for_numbers(self):
        rows, flow = brought(BARE)
        for wrong in (None, "0", (), (0,), [], {}, b"0", Anything()):
            self.check(BARE, ((("a", wrong), rows[1]), flow), False)
            self.check(BARE, (rows, (wrong,)), False)

    def test_lists_for_tuples(self):
        rows, flow = brought(SONG)
        for told in ([rows, flow], (list(rows), flow), (rows, list(flow)), (tuple(list(row) for row in rows), flow),
                     (rows[:3] + (list(rows[3]),), flow), (dict(rows), flow), (rows, dict.fromkeys(flow)), {0: rows, 1: flow},
                     (rows, {0}), (rows, range(5))):
            self.check(SONG, told, False)

    def test_tuples_of_other_lengths(self):
        rows, flow = brought(SONG)
        for told in ((), (rows,), (rows, flow, ()), (rows, flow, flow), (rows, flow[:4]), (rows, flow + (0,)), (rows, ()),
                     (rows, flow[1:]), ((), flow), ((), ()), (((),) * 4, flow), (tuple((name,) for name, _ in rows), flow),
                     (tuple((*row, 0) for row in rows), flow), (rows[:3] + ((*rows[3], 0),), flow), (flow, rows)):
            self.check(SONG, told, False)

    def test_what_is_no_paper(self):
        for told in (None, 0, 1, True, "", "ab", "rows", b"ab", [], {}, (None, None), (0, 0), ("", ""), ("abcd", (0,) * 5),
                     (("a0", "b0", "c0", "d0"), (0,) * 5), ((1, 2, 3, 4), (0,) * 5), ((None,) * 4, (0,) * 5), is_right, Anything()):
            self.check(SONG, told, False)
            self.check(read(""), told, False)
        self.check(read(""), ((), ()), True)
        for told in ([(), ()], ([], ()), ((), []), ("", ""), ((), (0,)), ((("a", 0),), ())):
            self.check(read(""), told, False)

    def test_names_of_two_letters(self):
        song = read("note ab v 0 1\nnote cd w 0 1")
        self.check(song, ((("ab", 0), ("cd", 0)), ()), True)
        self.check(song, (("ab", "cd"), ()), False)
        self.check(song, ((("ab", 0), "cd"), ()), False)

    def test_nothing_is_changed(self):
        song = copy.deepcopy(SONG)
        paper = brought(song)
        kept = copy.deepcopy(paper)
        is_right(song, paper)
        self.assertEqual((song, paper), (SONG, kept))


if __name__ == "__main__":
    unittest.main()
