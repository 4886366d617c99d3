"""Promises 3, 4 and 5: the rows of a song, what is none, and what is told of them."""

import unittest

from choirtrue.errors import BadSign, BadText, SongError
from choirtrue.reading import read, read_tie
from choirtrue.words import text_words

NOUGHT = (0, 0, 0, 0)
TOLD = ("note", "held", "pure", "home", "step", "bend", "weight")

# Every row that there is, by what may stand in each place.
TIE_HEADS = ("held N N", "pure N N P / P", "step N N P / P")
ROWS = [row.split() for row in
        ["note N N B B", "home N N"]
        + [head + tail for head in TIE_HEADS for tail in ("", " bend B", " bend B weight W")]]
TIE_ROWS = [row for row in ROWS if row[0] not in ("note", "home")]

GOOD_ROWS = (
    "note a v 0 9999",
    "home a b",
    "held a b",
    "held a b bend 0",
    "held a b bend 9999 weight 9",
    "pure a b 3 / 2",
    "step a b 9800 / 1 bend 50",
    "pure a b 15 / 14 bend 7 weight 1",
    "step a b 1 / 9604 bend 10 weight 2",
)
VOCABULARY = TOLD + ("a", "abcdefgh", "/", "0", "1", "9", "10", "11", "50", "121", "9604", "9999",
                     "10000", "99999")


def is_smooth(number):
    return number > 0 and 210 ** 14 % number == 0


def fits(word, place):
    """Written apart from the program: what may stand in a place of a row."""
    number = int(word) if word.isdigit() else -1
    if place == "N":
        return word.isalpha() and word not in TOLD
    if place == "B":
        return 0 <= number <= 9999
    if place == "P":
        return 1 <= number <= 9999 and is_smooth(number)
    if place == "W":
        return 1 <= number <= 9
    return word == place


def begins(words, row):
    return len(words) <= len(row) and all(fits(word, place) for word, place in zip(words, row))


def spot_in(words, rows):
    """The first word with which none of the rows goes on, or None of a whole row."""
    for many in range(1, len(words) + 1):
        if not any(begins(words[:many], row) for row in rows):
            return many - 1
    if any(len(row) == len(words) and begins(words, row) for row in rows):
        return None
    return len(words)


def changed_rows():
    """Each row with a word left out, told twice, put in, or another one in its place."""
    for row in GOOD_ROWS:
        words = row.split()
        yield words
        for at in range(len(words)):
            yield words[:at]
            yield words[:at] + words[at + 1:]
            yield words[:at + 1] + words[at:]
        for word in VOCABULARY:
            for at in range(len(words) + 1):
                yield words[:at] + [word] + words[at:]
                yield words[:at] + [word] + words[at + 1:]


class Asking(unittest.TestCase):
    def check_spot(self, text, spot):
        with self.assertRaises(BadText) as caught:
            read(text)
        self.assertEqual(caught.exception.spot, spot)
        self.assertIs(caught.exception.spot.__class__, tuple)

    def check_tie_spot(self, words, at):
        with self.assertRaises(BadText) as caught:
            read_tie(words)
        self.assertEqual(caught.exception.spot, (0, at))


class Rows(Asking):
    """Promise 3, and what is told of it by promise 5."""

    def test_no_rows(self):
        for text in ("", "  ", "\n", "\n \n"):
            self.assertEqual(read(text), ((), (), None))

    def test_note(self):
        self.assertEqual(read("note c alto 0 4"), ((("c", "alto", 0, 4),), (), None))
        self.assertEqual(read("note a a 9999 0")[0], (("a", "a", 9999, 0),))
        self.assertEqual(read("note a a 3 3")[0], (("a", "a", 3, 3),))
        self.assertEqual(read("note abcdefgh z 9 10")[0], (("abcdefgh", "z", 9, 10),))

    def test_held(self):
        self.assertEqual(read("held a b")[1], (("held", "a", "b", NOUGHT, 50, 1),))
        self.assertEqual(read("held a b bend 7")[1], (("held", "a", "b", NOUGHT, 7, 1),))
        self.assertEqual(read("held a b bend 7 weight 3")[1], (("held", "a", "b", NOUGHT, 7, 3),))

    def test_pure_and_step(self):
        for word in ("pure", "step"):
            self.assertEqual(read(word + " a b 3 / 2")[1], ((word, "a", "b", (-1, 1, 0, 0), 50, 1),))
            self.assertEqual(read(word + " a b 15 / 14 bend 0")[1],
                             ((word, "a", "b", (-1, 1, 1, -1), 0, 1),))
            self.assertEqual(read(word + " b a 1 / 7 bend 9999 weight 9")[1],
                             ((word, "b", "a", (0, 0, 0, -1), 9999, 9),))

    def test_bend_and_weight_as_they_are_unwritten(self):
        for head in ("held a b", "pure a b 3 / 2", "step a b 3 / 2"):
            plain = read(head)
            self.assertEqual(read(head + " bend 50"), plain)
            self.assertEqual(read(head + " bend 50 weight 1"), plain)

    def test_home(self):
        self.assertEqual(read("home a b"), ((), (), ("a", "b")))
        self.assertEqual(read("home a b\nhome c d\nhome e f")[2], ("a", "b"))
        self.assertEqual(read("held a b\n\nhome b a\nhome a b")[2], ("b", "a"))
        self.assertIsNone(read("note a b 0 1\nheld a b")[2])

    def test_a_later_home_has_to_be_a_row(self):
        self.check_spot("home a b\nhome a", (1, 2))

    def test_any_order(self):
        told = read("home b a\nstep b a 2/3 bend 9\nnote a v 0 2\nheld a b\nnote b v 2 4\n"
                    "pure a b 5 / 4 bend 3 weight 2\nhome a b\nnote c u 0 9")
        self.assertEqual(told, (
            (("a", "v", 0, 2), ("b", "v", 2, 4), ("c", "u", 0, 9)),
            (("step", "b", "a", (1, -1, 0, 0), 9, 1), ("held", "a", "b", NOUGHT, 50, 1),
             ("pure", "a", "b", (-2, 0, 1, 0), 3, 2)),
            ("b", "a"),
        ))

    def test_rows_that_are_no_song(self):
        """What only need_song refuses is read."""
        self.assertEqual(read("held a a\nnote a v 5 1\nnote a v 5 1\nhome q q"),
                         ((("a", "v", 5, 1), ("a", "v", 5, 1)), (("held", "a", "a", NOUGHT, 50, 1),), ("q", "q")))

    def test_blanks(self):
        loose = read("  note  a   v 0  2 \n\n   \npure a b  3  /  2  bend 5 weight  2\n")
        self.assertEqual(read("note a v0 2\npure a b3/2bend5weight2"), loose)
        self.assertEqual(loose, ((("a", "v", 0, 2),), (("pure", "a", "b", (-1, 1, 0, 0), 5, 2),), None))

    def test_common_factors(self):
        self.assertEqual(read("pure a b 6 / 4")[1][0][3], (-1, 1, 0, 0))
        self.assertEqual(read("pure a b 9000 / 9000")[1][0][3], NOUGHT)
        self.assertEqual(read("step a b 1400 / 2100")[1][0][3], (1, -1, 0, 0))

    def test_p_and_q(self):
        for number in (1, 2, 3, 5, 7, 8192, 6561, 3125, 2401, 9604, 9800, 9720):
            for row in (f"pure a b {number} / 2", f"step a b 2 / {number}"):
                self.assertEqual(len(read(row)[1]), 1, row)
        for number in (0, 11, 13, 22, 121, 9997, 9999, 10000, 10080, 16384, 99999):
            self.check_spot(f"pure a b {number} / 2", (0, 3))
            self.check_spot(f"step a b 2 / {number}", (0, 5))

    def test_which_p_there_are(self):
        for number in range(10003):
            good = number <= 9999 and is_smooth(number)
            try:
                read_tie(["pure", "a", "b", str(number), "/", "1"])
            except BadText as refusal:
                self.assertEqual((good, refusal.spot), (False, (0, 3)), number)
            else:
                self.assertTrue(good, number)

    def test_kinds_of_values(self):
        notes, ties, home = told = read("note a v 0 1\npure a b 1 / 1 bend 1 weight 1\nhome a b")
        for value in (told, notes, ties, home, notes[0], ties[0], ties[0][3]):
            self.assertIs(value.__class__, tuple)
        for value in (*notes[0][2:], *ties[0][3], *ties[0][4:]):
            self.assertIs(value.__class__, int)
        self.assertIs(read("held a b")[1][0][4].__class__, int)
        self.assertIs(read("held a b")[1][0][5].__class__, int)


class NoRows(Asking):
    """Promise 4."""

    def test_changed_rows(self):
        rows = 0
        for words in changed_rows():
            spot = spot_in(words, ROWS) if words else None
            text = "\n \nhome a b\n" + " ".join(words) + "\n"
            if spot is None:
                read(text)
            else:
                self.check_spot(text, (3, spot))
                rows += 1
        self.assertGreater(rows, 1000)

    def test_changed_ties(self):
        for words in changed_rows():
            spot = spot_in(words, TIE_ROWS) if words else 0
            if spot is None:
                self.assertEqual(read_tie(words), read(" ".join(words))[1][0])
            else:
                self.check_tie_spot(words, spot)

    def test_first_words(self):
        for word in ("a", "bend", "weight", "notes", "/", "0", "3"):
            self.check_spot(word, (0, 0))
            self.check_spot("home a b\n" + word + " a b", (1, 0))

    def test_weight_without_a_bend(self):
        self.check_spot("held a b weight 3", (0, 3))
        self.check_spot("pure a b 3/2 weight 3", (0, 6))
        self.check_spot("held a b weight 3 bend 3", (0, 3))
        self.check_spot("held a b bend weight 3", (0, 4))

    def test_bounds(self):
        self.check_spot("note a b 10000 1", (0, 3))
        self.check_spot("note a b 1 10000", (0, 4))
        self.check_spot("held a b bend 10000", (0, 4))
        self.check_spot("held a b bend 50 weight 0", (0, 6))
        self.check_spot("held a b bend 50 weight 10", (0, 6))
        self.check_spot("step a b 3/2 bend 50 weight 10", (0, 9))

    def test_rows_that_end_too_soon(self):
        for row in ("note", "note a", "note a b", "note a b 1", "home", "home a", "held", "held a",
                    "held a b bend", "held a b bend 1 weight", "pure", "pure a b", "pure a b 3",
                    "pure a b 3 /", "step a b 3 / 2 bend", "step a b 3 / 2 bend 3 weight"):
            self.check_spot(row, (0, len(row.split())))
            self.check_spot(row + "\nnote a b 0 1", (0, len(row.split())))

    def test_rows_that_go_on(self):
        self.check_spot("home a b c", (0, 3))
        self.check_spot("home a b bend 1", (0, 3))
        self.check_spot("note a b 0 1 2", (0, 5))
        self.check_spot("held a b 3 / 2", (0, 3))
        self.check_spot("held a b bend 1 weight 2 bend", (0, 7))

    def test_told_words_are_no_names(self):
        for word in TOLD:
            self.check_spot("note " + word + " v 0 1", (0, 1))
            self.check_spot("note a " + word + " 0 1", (0, 2))
            self.check_spot("held a " + word, (0, 2))

    def test_the_first_row_that_is_none(self):
        self.check_spot("\n\nhome a b\n  \nhome a\nnote", (4, 2))
        self.check_spot("note a b 0 1\nhome a\nheld", (1, 2))
        self.check_spot("home a b\n" * 5 + "pure a b 3/11", (5, 5))

    def test_bad_sign_goes_ahead(self):
        with self.assertRaises(BadSign) as caught:
            read("home a\nnote A")
        self.assertEqual(caught.exception.spot, 12)
        for told in (None, 3, True, [], "home a\n" + " " * 8000):
            with self.assertRaises(BadSign) as caught:
                read(told)
            self.assertEqual(caught.exception.spot, 0)

    def test_a_text_of_8000_signs(self):
        text = "home a b".ljust(8000)
        self.assertEqual(read(text)[2], ("a", "b"))
        self.check_spot("home a".ljust(8000), (0, 2))

    def test_130_rows(self):
        text = "\n" * 200 + "note a b 0 1\n" * 130
        self.assertEqual(len(read(text)[0]), 130)
        self.check_spot(text.rstrip() + " 2", (329, 5))


class Ties(Asking):
    """The interface's read_tie."""

    def test_ties(self):
        self.assertEqual(read_tie(["held", "a", "b"]), ("held", "a", "b", NOUGHT, 50, 1))
        self.assertEqual(read_tie(["step", "a", "b", "10", "/", "8", "bend", "4"]),
                         ("step", "a", "b", (-2, 0, 1, 0), 4, 1))
        self.assertEqual(read_tie(["pure", "x", "y", "7", "/", "5", "bend", "0", "weight", "9"]),
                         ("pure", "x", "y", (0, 0, -1, 1), 0, 9))

    def test_refusals(self):
        self.check_tie_spot([], 0)
        self.check_tie_spot(["note", "a", "b", "0", "1"], 0)
        self.check_tie_spot(["home", "a", "b"], 0)
        self.check_tie_spot(["a"], 0)
        self.check_tie_spot(["held"], 1)
        self.check_tie_spot(["held", "a", "b", "c"], 3)
        self.check_tie_spot(["pure", "a", "b"], 3)
        self.check_tie_spot(["held", "a", "b", "weight", "2"], 3)
        self.check_tie_spot(["pure", "a", "b", "3", "/", "11"], 5)

    def test_what_is_no_word(self):
        for word in ("", "03", "123456", "-3", "3 ", "A"):
            self.check_tie_spot(["pure", "a", "b", word, "/", "2"], 3)
        for word in ("", "abcdefghi", "A", "a b", "3"):
            self.check_tie_spot(["held", "a", word], 2)


class Again(Asking):
    """Promise 1, of reading."""

    def test_words_are_not_changed(self):
        for row in GOOD_ROWS:
            words = row.split()
            try:
                read_tie(words)
            except SongError:
                pass
            self.assertEqual(words, row.split())

    def test_words_may_be_changed_behind(self):
        words = ["held", "a", "b"]
        told = read_tie(words)
        words[1] = "z"
        words.append("bend")
        self.assertEqual(told, ("held", "a", "b", NOUGHT, 50, 1))
        self.assertEqual(read_tie(["held", "a", "b"]), told)

    def test_the_same_again(self):
        text = "note a v 0 1\nnote b v 1 2\nstep a b 9 / 8 bend 3\nhome a b"
        first = read(text)
        text_words(text)[0].clear()
        self.assertEqual(read(text), first)
        for _ in range(2):
            self.check_spot("home a", (0, 2))


if __name__ == "__main__":
    unittest.main()
