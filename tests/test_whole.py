"""Promise 1, over the whole program."""

import copy
import os
import subprocess
import sys
import unittest
from pathlib import Path

from choirtrue.bending import bends, brought, cost, is_flow, stands, worth
from choirtrue.desk import Desk
from choirtrue.errors import SongError, TooTight, Unpure
from choirtrue.house import House
from choirtrue.papers import is_right
from choirtrue.ratios import fraction, power, ratio_of, ratio_text, size, together, turned
from choirtrue.reading import read, read_tie
from choirtrue.sinking import lost, sink, sunk
from choirtrue.songs import is_overlap, need_song, parts_of
from choirtrue.tuning import is_round, round_ratio, tuned
from choirtrue.words import is_name, text_words
from choirtrue.writing import written

TEXT = ("note c alto 0 2\nnote g tenor 0 4\nnote d alto 2 6\nnote a tenor 4 8\nnote e bass 6 8\nnote f alto 6 8\n"
        "pure c g 3/2 bend 9000\npure d g 4/3 bend 9000\npure d a 3/2 bend 9000 weight 2\n"
        "pure e a 4/3 bend 9000 weight 3\npure f e 5/4 bend 9000 weight 4\nhome c f")
SONG = read(TEXT)
RUNG = read(TEXT + "\npure a d 3/2\npure d a 4/3")
GRAINS = dict(brought(SONG)[0])
FLOW = list(brought(SONG)[1])
RATIO = (-1, 1, 0, 0)
CALLS = (
    (text_words, TEXT), (text_words, "note C"), (is_name, "note"), (is_name, "alto"), (ratio_of, 3, 2), (together, RATIO, RATIO),
    (turned, RATIO), (power, RATIO, 3), (size, RATIO), (fraction, RATIO), (ratio_text, RATIO), (read, TEXT), (read, TEXT + "\nhome"),
    (read_tie, ["pure", "a", "b", "3", "/", "2"]), (read_tie, ["pure", "a"]), (read_tie, []), (written, SONG), (need_song, SONG),
    (need_song, (SONG[0], SONG[1], ("c", "c"))), (is_overlap, SONG[0][0], SONG[0][1]), (parts_of, SONG), (tuned, SONG), (tuned, RUNG),
    (round_ratio, RUNG, [(2, 1), (6, -1)]), (is_round, RUNG, [(2, 1), (6, -1)]), (is_round, RUNG, [[2, 1], [6, -1]]), (sink, SONG),
    (sink, RUNG), (sink, (SONG[0], SONG[1], None)), (sunk, SONG, 4), (lost, SONG, 9), (bends, SONG, GRAINS), (stands, SONG, GRAINS),
    (cost, SONG, GRAINS), (worth, SONG, FLOW), (is_flow, SONG, FLOW), (brought, SONG), (brought, RUNG), (is_right, SONG, brought(SONG)),
    (is_right, SONG, [GRAINS, FLOW]), (is_right, SONG, None),
)


def outcome(call, handed):
    """What is told, or the refusal and its field."""
    try:
        return call(*handed)
    except SongError as refusal:
        return [refusal.__class__.__name__, vars(refusal)]


def spoil(told):
    """Changes whatever can be changed of what was told."""
    if isinstance(told, list):
        for one in told:
            spoil(one)
        told.append("more")
        told.reverse()
    elif isinstance(told, dict):
        for one in list(told.values()):
            spoil(one)
        told.clear()
    elif isinstance(told, tuple):
        for one in told:
            spoil(one)


class Whole(unittest.TestCase):
    def test_nothing_handed_in_is_changed_and_each_call_tells_the_same_again(self):
        for call, *handed in CALLS:
            with self.subTest(call=call.__name__, handed=handed):
                given = copy.deepcopy(handed)
                first = outcome(call, given)
                self.assertEqual(given, handed)
                kept = copy.deepcopy(first)
                spoil(first)
                self.assertEqual(given, handed)
                self.assertEqual(outcome(call, given), kept)
                self.assertEqual(outcome(call, handed), kept)

    def test_what_is_handed_in_may_be_changed_later(self):
        words = ["pure", "a", "b", "3", "/", "2"]
        tie = read_tie(words)
        words[1] = "c"
        self.assertEqual(tie, ("pure", "a", "b", RATIO, 50, 1))
        steps = [(0, 1), (1, -1)]
        for kind in (Unpure, TooTight):
            refusal = kind(steps)
            steps.append((2, 1))
            self.assertEqual(refusal.round_of, [(0, 1), (1, -1)])
            steps.pop()

    def test_nothing_is_told_where_nothing_is_promised(self):
        self.assertIsNone(need_song(SONG))
        house = House(SONG)
        self.assertIsNone(house.put(SONG[1][0]))
        self.assertIsNone(house.take(0))

    def test_whole_numbers_are_ints_and_truths_are_truths(self):
        for told in (size(RATIO), lost(SONG, 0), cost(SONG, GRAINS), worth(SONG, FLOW), *bends(SONG, GRAINS), *FLOW, *GRAINS.values(),
                     *sink(SONG), *fraction(RATIO)):
            self.assertIs(told.__class__, int)
        for told in (is_name("a"), is_overlap(*SONG[0][:2]), is_round(SONG, []), stands(SONG, GRAINS), is_flow(SONG, FLOW),
                     is_flow(SONG, []), is_right(SONG, None), is_right(SONG, brought(SONG))):
            self.assertIs(told.__class__, bool)

    def test_the_same_in_every_run(self):
        asked = ("from choirtrue.desk import Desk\nfrom choirtrue.house import House\n"
                 f"desk = Desk({TEXT!r})\nprint(desk.house.brought(), desk.say('back'))\n"
                 "desk.say('put pure a d 3/2')\ndesk.say('put pure d a 4/3')\nprint(desk.say('pure'), desk.say('back'))\n")
        told = set()
        for seed in ("0", "1", "2"):
            run = subprocess.run([sys.executable, "-c", asked], capture_output=True, text=True, check=True,
                                 cwd=Path(__file__).resolve().parent.parent,
                                 env={**os.environ, "PYTHONHASHSEED": seed, "PYTHONDONTWRITEBYTECODE": "1"})
            told.add(run.stdout)
        self.assertEqual(len(told), 1)
        desk = Desk(TEXT)
        self.assertTrue(told.pop().startswith(f"{desk.house.brought()} {desk.say('back')}\n"))


if __name__ == "__main__":
    unittest.main()
