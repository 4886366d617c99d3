"""Promise 2: texts, words and their parting, names and told words."""

import unittest

from choirtrue.errors import BadSign
from choirtrue.words import is_name, text_words

TOLD = ("note", "held", "pure", "home", "step", "bend", "weight")


class Parting(unittest.TestCase):
    def check_spot(self, text, spot):
        with self.assertRaises(BadSign) as caught:
            text_words(text)
        self.assertEqual(caught.exception.spot, spot)
        self.assertIs(caught.exception.spot.__class__, int)

    def test_words_side_by_side(self):
        self.assertEqual(text_words("3/2"), [["3", "/", "2"]])
        self.assertEqual(text_words("a1"), [["a", "1"]])
        self.assertEqual(text_words("1a"), [["1", "a"]])
        self.assertEqual(text_words("a/b//12c"), [["a", "/", "b", "/", "/", "12", "c"]])
        self.assertEqual(text_words("0/0a0"), [["0", "/", "0", "a", "0"]])

    def test_words_parted_by_blanks(self):
        self.assertEqual(text_words("  pure  a b 3 / 2 "), [["pure", "a", "b", "3", "/", "2"]])
        self.assertEqual(text_words("0 0 12 3"), [["0", "0", "12", "3"]])
        self.assertEqual(text_words("abcdefgh i"), [["abcdefgh", "i"]])

    def test_rows(self):
        self.assertEqual(text_words(""), [[]])
        self.assertEqual(text_words("   "), [[]])
        self.assertEqual(text_words("\n"), [[], []])
        self.assertEqual(text_words("a\n"), [["a"], []])
        self.assertEqual(text_words("\n  \na b\n\nc"), [[], [], ["a", "b"], [], ["c"]])
        self.assertEqual(text_words("a\nb"), [["a"], ["b"]])
        self.assertEqual(text_words("abcd\nefghi\n123\n456"),
                         [["abcd"], ["efghi"], ["123"], ["456"]])

    def test_how_many_letters(self):
        self.assertEqual(text_words("abcdefgh"), [["abcdefgh"]])
        self.check_spot("abcdefghi", 0)
        self.check_spot("a abcdefghi", 2)
        self.check_spot("12abcdefghi", 2)
        self.assertEqual(text_words("azazazaz"), [["azazazaz"]])

    def test_how_many_figures(self):
        self.assertEqual(text_words("12345"), [["12345"]])
        self.assertEqual(text_words("98760 99999"), [["98760", "99999"]])
        self.check_spot("123456", 0)
        self.check_spot("a/123456", 2)

    def test_noughts(self):
        self.assertEqual(text_words("0"), [["0"]])
        self.assertEqual(text_words("10 100"), [["10", "100"]])
        self.check_spot("00", 0)
        self.check_spot("01", 0)
        self.check_spot("a 007", 2)
        self.check_spot("3/02", 2)

    def test_signs_of_no_word(self):
        for sign in [chr(k) for k in range(33, 127)]:
            if not (sign.islower() or sign.isdigit() or sign in "/%"):
                with self.subTest(sign):
                    self.check_spot(sign, 0)
                    self.check_spot("ab " + sign, 3)
                    self.check_spot("ab" + sign + "cd", 2)
                    self.check_spot("12" + sign, 2)

    def test_all_small_letters_figures_and_the_mark(self):
        for sign in "abcdefghijklmnopqrstuvwxyz0123456789/":
            with self.subTest(sign):
                self.assertEqual(text_words(sign), [[sign]])

    def test_the_first_fault(self):
        self.check_spot("note a b 0 1\nheld A b\nC", 18)
        self.check_spot("a\n\n  abcdefghi 01 -", 5)
        self.check_spot("a\n012 B", 2)
        self.check_spot("a b\n1 B 012", 6)
        self.check_spot("abcdefghi\nB", 0)
        self.check_spot("abcdefghB", 8)
        self.check_spot("abcdefghiB", 0)
        self.check_spot("-1", 0)
        self.check_spot("1.5", 1)

    def test_how_long_a_text_may_be(self):
        self.assertEqual(text_words(" " * 8000), [[]])
        self.assertEqual(text_words("\n" * 8000), [[]] * 8001)
        self.assertEqual(text_words("a " * 4000), [["a"] * 4000])
        self.check_spot(" " * 7999 + "B", 7999)
        self.check_spot(" " * 8001, 0)
        self.check_spot("a " * 4000 + "b", 0)
        self.check_spot("\n" * 8001, 0)
        self.check_spot("aaa BBB" + " " * 7994, 0)
        self.check_spot("a\nb" * 3000, 0)

    def test_what_is_no_str(self):
        for told in (None, 0, 7, True, False, b"a", [], ["a"], [["a"]], ("a",), {}, {"a": 1}, object()):
            with self.subTest(repr(told)):
                self.check_spot(told, 0)


class Names(unittest.TestCase):
    def test_names(self):
        for word in ("a", "z", "abcdefgh", "ut", "notes", "no", "homes", "of", "rise", "tie", "round"):
            self.assertIs(is_name(word), True, word)

    def test_told_words(self):
        for word in TOLD:
            self.assertIs(is_name(word), False, word)

    def test_other_strs(self):
        for word in ("", "0", "12", "/", "abcdefghi", "A", "aB", "Note", "a1", "1a", "a b", " a", "a ",
                     "a\n", "\na", "a/b", "-", " ", "\n", "a-b", "note a", "\u00e4", "\u00df", "a\u0301"):
            self.assertIs(is_name(word), False, repr(word))


class Again(unittest.TestCase):
    """Promise 1, of the words."""

    def test_told_rows_are_the_askers_own(self):
        text = "note a b 0 1\n\nheld a b"
        told = text_words(text)
        first = [list(row) for row in told]
        told[0].append("z")
        told[1].append("z")
        told.pop()
        self.assertEqual(text_words(text), first)
        self.assertEqual(text_words(text), first)

    def test_rows_are_not_one_list(self):
        told = text_words("\n\n")
        told[0].append("a")
        self.assertEqual(told, [["a"], [], []])

    def test_the_same_refusal_again(self):
        for _ in range(2):
            with self.assertRaises(BadSign) as caught:
                text_words("a B")
            self.assertEqual(caught.exception.spot, 2)


if __name__ == "__main__":
    unittest.main()
