"""Promise 6: which songs are refused, and where; promise 8: what hangs together."""

import random
import unittest

from choirtrue.errors import BadSong
from choirtrue.reading import read
from choirtrue.songs import is_overlap, need_song, parts_of

NOUGHT = (0, 0, 0, 0)
GOOD = "note a v 0 4\nnote b v 4 8\nnote c w 2 6\nnote d w 6 9\n"


def beats(note):
    return set(range(note[2], note[3]))


def is_bad_note(notes, at):
    """Written apart from the program, by beats one by one."""
    ahead = notes[:at]
    mine = beats(notes[at])
    return (at >= 40 or not mine or notes[at][0] in {note[0] for note in ahead}
            or any(note[1] == notes[at][1] and mine & beats(note) for note in ahead))


def is_bad_tie(notes, ties, at):
    word, one, other = ties[at][:3]
    firsts = [note for note in notes if note[0] == one]
    others = [note for note in notes if note[0] == other]
    if at >= 80 or not firsts or not others or one == other:
        return True
    first, second = firsts[0], others[0]
    if word == "pure":
        return not beats(first) & beats(second)
    return min(beats(second)) <= max(beats(first)) or word == "step" and first[1] != second[1]


def wrong_row(song):
    notes, ties, home = song
    for at in range(len(notes)):
        if is_bad_note(notes, at):
            return ("note", at)
    for at in range(len(ties)):
        if is_bad_tie(notes, ties, at):
            return ("tie", at)
    names = [note[0] for note in notes]
    if home is not None and (home[0] not in names or home[1] not in names or home[0] == home[1]):
        return ("home", 0)
    return None


def row_of(song):
    try:
        told = need_song(song)
    except BadSong as refusal:
        return refusal.row
    assert told is None
    return None


class Refused(unittest.TestCase):
    def check(self, text, row):
        song = read(text)
        self.assertEqual(wrong_row(song), row, "the test's own mistake")
        if row is None:
            self.assertIsNone(need_song(song))
            return
        with self.assertRaises(BadSong) as caught:
            need_song(song)
        self.assertEqual(caught.exception.row, row)
        self.assertIs(caught.exception.row.__class__, tuple)

    def test_let_by(self):
        self.check("", None)
        self.check(GOOD, None)
        self.check(GOOD + "held a b\nstep a b 3/2\npure a c 3/2\npure c b 5/4\nheld a d\nhome a d", None)
        self.check(GOOD + "home d a", None)
        self.check("note a a 0 9999\nnote b b 9998 9999\npure b a 1/1", None)

    def test_note_of_a_name_that_is_ahead(self):
        self.check("note a v 0 1\nnote a w 5 6", ("note", 1))
        self.check("note a v 0 1\nnote b v 1 2\nnote c v 2 3\nnote a v 3 4", ("note", 3))
        self.check("note a v 0 1\nnote v a 0 1", None)

    def test_note_without_beats(self):
        self.check("note a v 0 0", ("note", 0))
        self.check("note a v 5 4", ("note", 0))
        self.check("note a v 4 5", None)
        self.check("note a v 0 1\nnote b w 9999 9999", ("note", 1))

    def test_notes_of_one_voice(self):
        self.check("note a v 0 4\nnote b v 4 5", None)
        self.check("note b v 4 5\nnote a v 0 4", None)
        self.check("note a v 0 4\nnote b v 3 5", ("note", 1))
        self.check("note b v 3 5\nnote a v 0 4", ("note", 1))
        self.check("note a v 0 9\nnote b v 3 5", ("note", 1))
        self.check("note b v 3 5\nnote a v 0 9", ("note", 1))
        self.check("note a v 3 5\nnote b v 3 5", ("note", 1))
        self.check("note a v 0 4\nnote b w 0 4", None)
        self.check("note a v 0 2\nnote b w 0 9\nnote c v 2 4\nnote d v 4 6\nnote e v 1 2", ("note", 4))
        self.check("note a v 0 2\nnote b v 4 6\nnote c v 2 5", ("note", 2))
        self.check("note a v 0 2\nnote b v 4 6\nnote c v 2 4", None)

    def test_the_41st_note(self):
        notes = [f"note {chr(97 + at // 26)}{chr(97 + at % 26)} v {at} {at + 1}" for at in range(45)]
        self.check("\n".join(notes[:40]), None)
        self.check("\n".join(notes[:41]), ("note", 40))
        self.check("\n".join(notes), ("note", 40))
        self.check("\n".join(notes[:39] + ["note aa v 90 91"] + notes[40:]), ("note", 39))
        self.check("\n".join(notes[:43] + ["note aa v 90 91", "held q q"]), ("note", 40))

    def test_tie_of_no_notes(self):
        for word in ("held a b", "step a b 3/2", "pure a b 3/2"):
            self.check(word, ("tie", 0))
            self.check("note a v 0 4\n" + word, ("tie", 0))
            self.check("note b v 0 4\n" + word, ("tie", 0))
        self.check(GOOD + "held a b\nheld a v", ("tie", 1))
        self.check(GOOD + "held a b\nheld w b", ("tie", 1))

    def test_tie_of_a_note_with_itself(self):
        for word in ("held a a", "step a a 3/2", "pure a a 1/1"):
            self.check(GOOD + word, ("tie", 0))
            self.check(GOOD + "held a b\npure a c 3/2\n" + word, ("tie", 2))

    def test_held(self):
        self.check("note a v 0 4\nnote b v 4 5\nheld a b", None)
        self.check("note a v 0 4\nnote b v 9 10\nheld a b", None)
        self.check("note a v 0 4\nnote b w 4 5\nheld a b", None)
        self.check("note a v 0 4\nnote b w 3 5\nheld a b", ("tie", 0))
        self.check("note a v 0 4\nnote b v 4 5\nheld b a", ("tie", 0))

    def test_step(self):
        self.check("note a v 0 4\nnote b v 4 5\nstep a b 9/8", None)
        self.check("note a v 0 4\nnote b v 9 10\nstep a b 8/9", None)
        self.check("note a v 0 4\nnote b v 4 5\nstep b a 9/8", ("tie", 0))
        self.check("note a v 0 4\nnote b w 4 5\nstep a b 9/8", ("tie", 0))
        self.check("note a v 0 4\nnote b w 3 5\nstep a b 9/8", ("tie", 0))
        self.check("note a v 0 4\nnote b w 0 4\nstep b a 9/8", ("tie", 0))

    def test_pure(self):
        self.check("note a v 0 4\nnote b w 3 5\npure a b 3/2", None)
        self.check("note a v 0 4\nnote b w 3 5\npure b a 3/2", None)
        self.check("note a v 0 4\nnote b w 4 5\npure a b 3/2", ("tie", 0))
        self.check("note a v 0 4\nnote b w 4 5\npure b a 3/2", ("tie", 0))
        self.check("note a v 0 4\nnote b v 4 5\npure a b 3/2", ("tie", 0))

    def test_the_81st_tie(self):
        self.check(GOOD + "held a b\n" * 80, None)
        self.check(GOOD + "held a b\n" * 81, ("tie", 80))
        self.check(GOOD + "held a b\n" * 81 + "held a a\n" * 2, ("tie", 80))
        self.check(GOOD + "held a b\n" * 79 + "held a a\n" * 3, ("tie", 79))
        self.check(GOOD + "held a b\n" * 81 + "home a a", ("tie", 80))

    def test_home(self):
        self.check(GOOD + "home a a", ("home", 0))
        self.check(GOOD + "home a q", ("home", 0))
        self.check(GOOD + "home q a", ("home", 0))
        self.check("home a b", ("home", 0))
        self.check(GOOD + "home a b\nhome a a", None)
        self.check(GOOD + "home b a", None)

    def test_the_first_thing_counts(self):
        self.check("home a a\nheld a a\nnote a v 1 1", ("note", 0))
        self.check("home a a\nheld a a\nnote a v 0 1", ("tie", 0))
        self.check("home a a\nnote a v 0 1", ("home", 0))
        self.check("note a v 0 1\nnote a w 0 1\nnote b v 3 3", ("note", 1))
        self.check(GOOD + "pure a c 1/1\npure a b 1/1\nheld b a\nhome q q", ("tie", 1))

    def test_any_song(self):
        chance = random.Random(6)
        rows = {}
        for _ in range(20000):
            notes = [(chance.choice("abcdefgh"), chance.choice("uvwx"), at + chance.randrange(4), at + 3 + chance.randrange(3))
                     for at in (chance.randrange(12) for _ in range(chance.randrange(5)))]
            names = [note[0] for note in notes] * 4 + ["q"]
            ties = [(chance.choice(("held", "step", "pure")), chance.choice(names), chance.choice(names), NOUGHT, 50, 1)
                    for _ in range(chance.randrange(3))]
            home = chance.choice((None, (chance.choice(names), chance.choice(names))))
            song = (tuple(notes), tuple(ties), home)
            row = wrong_row(song)
            self.assertEqual(row_of(song), row, song)
            rows[row] = rows.get(row, 0) + 1
        self.assertEqual(set(rows), {None, ("home", 0), *[("note", at) for at in range(4)],
                                     ("tie", 0), ("tie", 1)})
        self.assertGreater(min(rows.values()), 100)

    def test_nothing_is_changed(self):
        song = read(GOOD + "held a b\nhome a a")
        for _ in range(2):
            self.assertEqual(row_of(song), ("home", 0))
        self.assertEqual(song, read(GOOD + "held a b\nhome a a"))


class Overlap(unittest.TestCase):
    def test_every_pair_of_notes(self):
        spans = [(start, end) for start in range(5) for end in range(5)]
        for one in spans:
            for other in spans:
                for voices in ("vv", "vw"):
                    first = ("a", voices[0], *one)
                    second = ("b", voices[1], *other)
                    self.assertIs(is_overlap(first, second), bool(beats(first) & beats(second)))

    def test_a_note_with_itself(self):
        self.assertIs(is_overlap(("a", "v", 0, 1), ("a", "v", 0, 1)), True)
        self.assertIs(is_overlap(("a", "v", 9998, 9999), ("b", "v", 0, 9999)), True)


class Parts(unittest.TestCase):
    def test_nothing(self):
        self.assertEqual(parts_of(read("")), [])

    def test_without_ties(self):
        self.assertEqual(parts_of(read("note c v 0 1\nnote a v 1 2\nnote b v 2 3\nhome a c")), [["a"], ["b"], ["c"]])

    def test_parts(self):
        notes = "note e v 0 9\nnote b w 0 9\nnote d x 0 9\nnote a y 0 9\nnote c z 0 9\n"
        self.assertEqual(parts_of(read(notes + "pure e a 1/1\npure d b 1/1")), [["a", "e"], ["b", "d"], ["c"]])
        self.assertEqual(parts_of(read(notes + "pure e c 1/1\npure d b 1/1\npure b e 1/1")), [["a"], ["b", "c", "d", "e"]])
        self.assertEqual(parts_of(read(notes + "pure d e 1/1\npure e d 1/1\npure d e 3/2\nhome a e")),
                         [["a"], ["b"], ["c"], ["d", "e"]])
        self.assertEqual(parts_of(read(notes + "pure a b 1/1\npure b c 1/1\npure c d 1/1\npure d e 1/1\npure e a 1/1")),
                         [["a", "b", "c", "d", "e"]])

    def test_longer_names(self):
        self.assertEqual(parts_of(read("note aa v 0 9\nnote b w 0 9\nnote a x 0 9\nnote ab y 0 9\npure b aa 1/1")),
                         [["a"], ["aa", "b"], ["ab"]])

    def test_any_ties(self):
        chance = random.Random(8)
        for _ in range(500):
            names = chance.sample("abcdefghijkl", chance.randrange(1, 12))
            notes = tuple((name, name, 0, 1) for name in names)
            pairs = [chance.sample(names, 2) for _ in range(chance.randrange(9)) if len(names) > 1]
            ties = tuple(("pure", one, other, NOUGHT, 50, 1) for one, other in pairs)
            near = {name: {name} for name in names}
            for _ in names:
                for one, other in pairs:
                    near[one] = near[other] = near[one] | near[other]
            parts = sorted({tuple(sorted(near[name])) for name in names})
            self.assertEqual(parts_of((notes, ties, None)), [list(part) for part in parts])

    def test_lists_are_the_askers(self):
        song = read(GOOD + "held a b")
        told = parts_of(song)
        self.assertEqual([part.__class__ for part in told], [list] * 3)
        told[0].append("z")
        told.clear()
        self.assertEqual(parts_of(song), [["a", "b"], ["c"], ["d"]])


if __name__ == "__main__":
    unittest.main()
