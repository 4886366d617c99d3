"""Promise 16, with 2, 3, 4 and 6: a desk, and the lines that it answers."""

import random
import unittest

import sums
from choirtrue.desk import Desk
from choirtrue.errors import BadSign, BadSong, BadText, SongError, Unpure
from choirtrue.ratios import ratio_text, size
from choirtrue.reading import read
from choirtrue.tuning import is_round, round_ratio, tuned
from choirtrue.writing import written

NOTES = "note c alto 0 4\nnote e tenor 2 6\nnote d alto 4 8\nnote g tenor 6 8\n"
TEXT = NOTES + "pure c e 5/4\nstep c d 9/8\nstep e g 6/5\npure d g 4/3\nhome c g"
TWO = "note a v 0 1\nnote b w 0 1\n"
# It sinks by a comma, which its bends can take away.
PUMP = ("note c alto 0 2\nnote g tenor 0 4\nnote d alto 2 6\nnote a tenor 4 8\nnote e bass 6 8\nnote f alto 6 8\n"
        "pure c g 3/2 bend 9000\npure d g 4/3 bend 9000\npure d a 3/2 bend 9000 weight 2\n"
        "pure e a 4/3 bend 9000 weight 3\npure f e 5/4 bend 9000 weight 4\nhome c f")


class Checked(unittest.TestCase):
    def check(self, text, line, told):
        desk = Desk(text)
        answer = desk.say(line)
        self.assertEqual(answer, told)
        self.assertIs(answer.__class__, list)
        self.assertEqual([one.__class__ for one in answer], [str] * len(answer))

    def check_all(self, desk, *lines):
        for line, told in lines:
            self.assertEqual(desk.say(line), told, line)

    def check_round(self, text, told, last):
        """A told round, which is one of the song's, home being its last tie where it is too tight."""
        self.assertEqual((told[0], told[-1]), ("round", last))
        ways = {"forth": 1, "back": -1}
        steps = [(int(line.split(" ")[0]), ways[line.split(" ")[1]]) for line in told[1:-1]]
        self.assertEqual([f"{number} {'forth' if forth == 1 else 'back'}" for number, forth in steps], told[1:-1])
        self.assertIs(is_round(read(text), steps, last == "too tight"), True)
        return steps


class PutAndTake(Checked):
    def test_put(self):
        desk = Desk(NOTES)
        self.check_all(desk, ("put pure c e 5 / 4", ["done"]), ("put held c g", ["done"]),
                       ("put step c d 9/8 bend 7", ["done"]), ("put pure d g 4/3 bend 9999 weight 9", ["done"]),
                       ("put held c d bend 0 weight 2", ["done"]))
        self.assertEqual(written(desk.house.song()), NOTES + "pure c e 5 / 4\nheld c g\nstep c d 9 / 8 bend 7\n"
                         "pure d g 4 / 3 bend 9999 weight 9\nheld c d bend 0 weight 2")

    def test_blanks(self):
        desk = Desk(NOTES)
        self.check_all(desk, ("  put   pure c  e 5/4  ", ["done"]), ("put pure c e 5  /4", ["done"]),
                       ("put pure c e 5/ 4bend 9weight 2", ["done"]), (" take  0 ", ["done"]), ("take0", ["done"]),
                       ("   pure ", ["c 1 / 1", "d 1 / 1", "e 5 / 4", "g 1 / 1"]), ("lost   9", ["NoHome"]), ("lost9", ["NoHome"]),
                       (" sink ", ["NoHome"]), ("  back  ", ["c 0", "d 0", "e 386314", "g 0", "costs 0"]))

    def test_put_of_what_may_be_no_tie(self):
        desk = Desk(NOTES)
        for line in ("put pure c d 3/2", "put held c e", "put held d c", "put step c g 3/2", "put step d c 3/2", "put pure c c 3/2",
                     "put pure c f 3/2", "put held x y", "put pure alto e 3/2", "put step e d 9/8"):
            self.check_all(desk, (line, ["NoTie"]), (line, ["NoTie"]))
        self.assertEqual(desk.house.song(), read(NOTES))

    def test_put_of_what_is_no_row(self):
        desk = Desk(NOTES)
        for line in ("put", "put put", "put pure", "put pure c", "put pure c e", "put pure c e 5", "put pure c e 5 /",
                     "put pure c e 5 4", "put pure c e 5/4 bend", "put pure c e 5/4 bend 10000", "put pure c e 5/4 bend 0 weight",
                     "put pure c e 5/4 bend 0 weight 0", "put pure c e 5/4 bend 0 weight 10", "put pure c e 5/4 weight 2",
                     "put pure c e 5/4 bend 1 bend 2", "put pure c e 5/4 bend 1 weight 2 weight 2", "put pure c e 5/4 c",
                     "put pure c e 11/4", "put pure c e 5/13", "put pure c e 0/4", "put pure c e 5/0", "put pure c e 10000/3",
                     "put pure c e 3/10000", "put held c e 5/4", "put held c", "put held", "put held c 5", "put held c g bend", "put step c d",
                     "put note x bass 0 1", "put home c g", "put pure home e 5/4", "put pure c bend 5/4", "put c e", "put pure c e 5//4",
                     "put 0", "put pure c d 11/2", "put held d c weight 2", "put pure c e 5/4 5/4", "put pure c e 5/4/", "put /", "put pure, c e"):
            self.check_all(desk, (line, ["BadLine"]), (line, ["BadLine"]))
        self.assertEqual(desk.house.song(), read(NOTES))

    def test_the_eighty_first(self):
        desk = Desk(NOTES + "pure c e 5/4\n" * 79)
        self.check_all(desk, ("put pure c e 5/4", ["done"]), ("put pure c e 5/4", ["NoTie"]), ("take 79", ["done"]), ("take 79", ["NoTie"]),
                       ("put held c e", ["NoTie"]), ("put held c g", ["done"]), ("put held c g", ["NoTie"]))

    def test_take(self):
        desk = Desk(TEXT)
        self.check_all(desk, ("take 4", ["NoTie"]), ("take 99999", ["NoTie"]), ("take 1", ["done"]), ("take 3", ["NoTie"]),
                       ("take 2", ["done"]), ("take 2", ["NoTie"]), ("take 0", ["done"]), ("take 0", ["done"]), ("take 0", ["NoTie"]))
        self.assertEqual(desk.house.song(), (read(TEXT)[0], (), ("c", "g")))

    def test_take_of_what_is_no_number(self):
        desk = Desk(TEXT)
        for line in ("take", "take 0 1", "take 0 0", "take c", "take /", "take 0 /", "take -1", "take 01", "take 100000", "take held", "take take",
                     "take 0.", "take +0", "0 take", "take 0\n", "take\n0", "takes 0", "tak 0"):
            self.check_all(desk, (line, ["BadLine"]))
        self.assertEqual(desk.house.song(), read(TEXT))


class Pure(Checked):
    def test_a_pure_song(self):
        self.check(TEXT, "pure", ["c 1 / 1", "d 9 / 8", "e 5 / 4", "g 3 / 2"])
        self.check(TWO + "pure b a 3/2", "pure", ["a 1 / 1", "b 2 / 3"])
        self.check(PUMP, "pure", ["a 1 / 1", "c 16 / 27", "d 2 / 3", "e 3 / 4", "f 3 / 5", "g 8 / 9"])

    def test_without_notes_and_ties(self):
        self.check("", "pure", [])
        self.check("\n \n", "pure", [])
        self.check("note b v 0 1\nnote a w 0 1", "pure", ["a 1 / 1", "b 1 / 1"])

    def test_a_round(self):
        text = TWO + "pure a b 3/2\npure a b 4/3"
        told = Desk(text).say("pure")
        self.assertIn(told, (["round", "0 forth", "1 back", "comes to 9 / 8"], ["round", "1 back", "0 forth", "comes to 9 / 8"],
                             ["round", "1 forth", "0 back", "comes to 8 / 9"], ["round", "0 back", "1 forth", "comes to 8 / 9"]))
        text = TWO + "pure a b 3/2\npure b a 3/2"
        told = Desk(text).say("pure")
        self.assertIn(told, (["round", "0 forth", "1 forth", "comes to 9 / 4"], ["round", "1 forth", "0 forth", "comes to 9 / 4"],
                             ["round", "0 back", "1 back", "comes to 4 / 9"], ["round", "1 back", "0 back", "comes to 4 / 9"]))

    def test_a_long_round(self):
        text = PUMP.replace("home c f", "pure c f 1/1").replace("note c alto 0 2", "note c alto 0 2\nnote h bass 0 6").replace(
            "pure c f 1/1", "pure c h 1/1\nheld h f")
        told = Desk(text).say("pure")
        self.assertIn(told[-1], ("comes to 81 / 80", "comes to 80 / 81"))
        steps = self.check_round(text, told, told[-1])
        self.assertEqual(sorted(number for number, _ in steps), [0, 1, 2, 3, 4, 5, 6])

    def test_home_is_no_tie(self):
        self.check(TWO + "pure a b 3/2\nhome a b", "pure", ["a 1 / 1", "b 3 / 2"])

    def test_more_words(self):
        for line in ("pure pure", "pure 0", "pure c", "pure c e 5/4", "pure /"):
            self.check(TEXT, line, ["BadLine"])


class Sinks(Checked):
    def test_sink(self):
        self.check(TEXT, "sink", ["3 / 2 701955"])
        self.check(TEXT.replace("home c g", "home g c"), "sink", ["2 / 3 -701955"])
        self.check(PUMP, "sink", ["81 / 80 21506"])
        self.check(PUMP.replace("home c f", "home f c"), "sink", ["80 / 81 -21506"])
        self.check(TWO + "pure a b 1/1\nhome a b", "sink", ["1 / 1 0"])
        self.check(TWO + "pure a b 2401/2400\nhome b a", "sink", ["2400 / 2401 -721"])

    def test_lost(self):
        for bound, verse in ((0, "1"), (21505, "1"), (21506, "2"), (43011, "2"), (43012, "3"), (99999, "5")):
            self.check(PUMP, f"lost {bound}", [verse])
            self.check(PUMP.replace("home c f", "home f c"), f"lost {bound}", [verse])

    def test_never(self):
        for bound in (0, 1, 99999):
            self.check(TWO + "pure a b 1/1\nhome a b", f"lost {bound}", ["never"])

    def test_no_home(self):
        for text in ("", TWO, TWO + "pure a b 3/2", TWO + "home a b"):
            self.check(text, "sink", ["NoHome"])
            self.check(text, "lost 0", ["NoHome"])

    def test_unpure(self):
        text = TWO + "pure a b 3/2\npure a b 4/3\n"
        self.check(text + "home a b", "sink", ["Unpure"])
        self.check(text + "home a b", "lost 0", ["Unpure"])

    def test_no_home_ahead_of_unpure_ahead_of_no_home(self):
        text = TWO + "note d d 0 1\nnote e e 0 1\npure a b 3/2\npure a b 4/3\n"
        for line in ("sink", "lost 7"):
            self.check(text, line, ["NoHome"])
            self.check(text + "home d e", line, ["Unpure"])
            self.check(text.replace("4/3", "3/2") + "home d e", line, ["NoHome"])
            self.check(text.replace("4/3", "3/2") + "home a e", line, ["NoHome"])

    def test_other_words(self):
        for line in ("sink 1", "sink sink", "sink /", "sinks", "lost", "lost 0 0", "lost a", "lost /", "lost -1", "lost 100000",
                     "lost 00", "lost lost", "1 lost", "lost 0/", "lost none"):
            self.check(PUMP, line, ["BadLine"])
            self.check(TWO, line, ["BadLine"])


class Back(Checked):
    def test_songs_that_are_pure(self):
        self.check("", "back", ["costs 0"])
        self.check(TWO, "back", ["a 0", "b 0", "costs 0"])
        self.check(TWO + "pure a b 3/2", "back", ["a 0", "b 701955", "costs 0"])
        self.check(TWO + "pure b a 3/2", "back", ["a 0", "b -701955", "costs 0"])

    def test_what_it_costs(self):
        self.check(TWO + "pure a b 225/224 bend 5000\npure b a 1/1 bend 9999 weight 2", "back", ["a 0", "b 2712", f"costs {5000 + 2712 * 2}"])
        self.check(TWO + "pure a b 225/224 bend 9999 weight 3\nhome b a", "back", ["a 0", "b 0", f"costs {7712 * 3}"])
        told = Desk(PUMP).say("back")
        self.assertEqual(told[-1], f"costs {9000 + 9000 + 3506 * 2}")
        bending = {line.split(" ")[0]: int(line.split(" ")[1]) for line in told[:-1]}
        self.assertEqual([line.split(" ")[0] for line in told[:-1]], list("acdefg"))
        self.assertTrue(sums.does_stand(read(PUMP), bending))
        self.assertEqual(sums.costs(read(PUMP), bending), 9000 + 9000 + 3506 * 2)

    def test_too_tight(self):
        text = TWO + "pure a b 225/224 bend 3855\npure a b 1/1 bend 3856"
        told = Desk(text).say("back")
        self.assertEqual(sorted(number for number, _ in self.check_round(text, told, "too tight")), [0, 1])
        self.check(text.replace("3855", "3856"), "back", ["a 0", "b 3856", "costs 7712"])

    def test_too_tight_through_home(self):
        text = TWO + "pure a b 225/224 bend 7711\nhome b a"
        told = Desk(text).say("back")
        self.assertIn(told, (["round", "0 forth", "1 forth", "too tight"], ["round", "1 forth", "0 forth", "too tight"],
                             ["round", "0 back", "1 back", "too tight"], ["round", "1 back", "0 back", "too tight"]))
        text = TWO + "pure a b 225/224 bend 7711\nhome a b"
        told = Desk(text).say("back")
        self.assertEqual(sorted(told[1:-1]) in (["0 back", "1 forth"], ["0 forth", "1 back"]), True)
        self.check_round(text, told, "too tight")

    def test_more_words(self):
        for line in ("back 0", "back back", "back /", "backs", "bac k"):
            self.check(PUMP, line, ["BadLine"])


class BadLines(Checked):
    def test_no_words(self):
        for line in ("", " ", "     "):
            self.check(TEXT, line, ["BadLine"])

    def test_line_ends(self):
        for line in ("\n", "pure\n", "\npure", "sink\nsink", "put pure c e 5/4\n", "take 0\n", "back \n ", "put pure\nc e 5/4", "lost 0\n"):
            self.check(TEXT, line, ["BadLine"])

    def test_signs_of_no_word(self):
        for line in ("Pure", "PURE", "pure.", "pure!", "sink?", "back-", "take -0", "lost 1.5", "lost 1,0", "put pure c e 5:4", "pure\t", "#pure",
                     "pure~", "pure_", "~", "A", "*", "\\", "\"pure\"", "lost 007", "lost 123456", "abcdefghi", "take 00"):
            self.check(TEXT, line, ["BadLine"])

    def test_other_words(self):
        for line in ("a", "note", "note x bass 0 1", "held c g", "step c d 9/8", "home", "home c g", "bend", "weight", "bend 0", "0", "12345", "/", "c",
                     "abcdefgh", "round", "done", "never", "puts", "put take 0", "say", "song", "tuned", "brought", "quit"):
            self.check(TEXT, line, ["BadLine"])

    def test_what_is_no_text(self):
        for line in (None, 0, 1, True, False, b"pure", [], ["pure"], ("pure",), {}, {"pure": 1}, {"pure"}, ["take", "0"], Desk, object(), ValueError("pure")):
            self.check(TEXT, line, ["BadLine"])

    def test_long_lines(self):
        self.check(TEXT, "sink" + " " * 7996, ["3 / 2 701955"])
        self.check(TEXT, "sink" + " " * 7997, ["BadLine"])
        self.check(TEXT, " " * 7997 + "sink", ["BadLine"])
        self.check(TEXT, "sink " * 2000, ["BadLine"])


class Desks(Checked):
    def test_texts_that_are_refused(self):
        for text, kind, field, spot in (("note C", BadSign, "spot", 5), (None, BadSign, "spot", 0), (5, BadSign, "spot", 0),
                                        ("a" * 8001, BadSign, "spot", 0), ("note a v 0", BadText, "spot", (0, 4)),
                                        ("\nput a b", BadText, "spot", (1, 0)), ("note a v 1 1", BadSong, "row", ("note", 0)),
                                        (TWO + "held a b", BadSong, "row", ("tie", 0)), (TWO + "home a a", BadSong, "row", ("home", 0)),
                                        ("note a v 1 1\nnote b", BadText, "spot", (1, 2)), ("note a v 1 1\nnote b .", BadSign, "spot", 20)):
            with self.assertRaises(SongError) as caught:
                Desk(text)
            self.assertIs(caught.exception.__class__, kind)
            self.assertEqual(getattr(caught.exception, field), spot)

    def test_refused_lines_change_nothing(self):
        desk = Desk(PUMP)
        told = [desk.say(line) for line in ("pure", "sink", "lost 9", "back")]
        for line in ("put pure c d 3/2", "put pure c g", "put held c c", "take 5", "take 99", "take", "pure 0", "sink 0", "lost", "back 0", "", None,
                     "put", "TAKE 0", "take 0\n", "take 0 1", "put pure c g 3/2\n"):
            self.assertIn(desk.say(line), (["BadLine"], ["NoTie"]))
            self.assertEqual(desk.house.song(), read(PUMP))
            self.assertEqual([desk.say(line) for line in ("pure", "sink", "lost 9", "back")], told)

    def test_a_song_as_it_is(self):
        desk = Desk(TWO + "home a b")
        self.check_all(desk, ("sink", ["NoHome"]), ("put pure a b 3/2", ["done"]), ("sink", ["3 / 2 701955"]), ("lost 0", ["1"]),
                       ("put pure a b 3/2", ["done"]), ("pure", ["a 1 / 1", "b 3 / 2"]), ("put pure b a 4/3", ["done"]), ("sink", ["Unpure"]),
                       ("take 0", ["done"]), ("sink", ["Unpure"]), ("take 0", ["done"]), ("sink", ["3 / 4 -498045"]), ("take 0", ["done"]),
                       ("take 0", ["NoTie"]), ("sink", ["NoHome"]), ("back", ["a 0", "b 0", "costs 0"]))

    def test_two_desks_of_one_text(self):
        one, other = Desk(TEXT), Desk(TEXT)
        one.say("take 0")
        self.assertEqual(other.say("take 3"), ["done"])
        self.assertEqual(one.say("take 3"), ["NoTie"])

    def test_answers_are_the_askers(self):
        desk = Desk(PUMP)
        for line in ("pure", "sink", "lost 9", "back", "", "take 9", "put held c g"):
            told = desk.say(line)
            kept = list(told)
            told.clear()
            self.assertEqual(desk.say(line), kept)

    def test_names_rising(self):
        text = "".join(f"note {name} {name} 0 1\n" for name in ("b", "ab", "a", "z", "aa", "put", "take"))
        names = ["a", "aa", "ab", "b", "put", "take", "z"]
        self.check(text, "pure", [f"{name} 1 / 1" for name in names])
        self.check(text, "back", [f"{name} 0" for name in names] + ["costs 0"])
        self.check(text, "put pure put take 3/2", ["done"])

    def test_any_song(self):
        chance = random.Random(51)
        pure = unpure = brought = tight = 0
        for _ in range(300):
            song = sums.random_song(chance, 5, 6)
            text = written(song)
            desk = Desk(text)
            try:
                ratios = tuned(song)
                self.assertEqual(desk.say("pure"), [f"{name} {ratio_text(ratios[name])}" for name in sorted(ratios)])
                pure += 1
            except Unpure as refusal:
                told = desk.say("pure")
                self.assertEqual(self.check_round(text, told, told[-1]), refusal.round_of)
                self.assertEqual(told[-1], "comes to " + ratio_text(round_ratio(song, refusal.round_of)))
                unpure += 1
            told = desk.say("back")
            if sums.is_too_tight(song):
                self.assertTrue(sums.is_tight_round(song, self.check_round(text, told, "too tight")))
                tight += 1
            else:
                bending = {line.split(" ")[0]: int(line.split(" ")[1]) for line in told[:-1]}
                self.assertEqual(list(bending), sorted(note[0] for note in song[0]))
                self.assertTrue(sums.does_stand(song, bending))
                self.assertEqual(told[-1], f"costs {sums.costs(song, bending)}")
                brought += 1
        self.assertGreater(min(pure, unpure, brought, tight), 30)

    def test_great_numbers(self):
        names = [chr(97 + at // 26) + chr(97 + at % 26) for at in range(40)]
        text = "".join(f"note {name} {name} 0 1\n" for name in names)
        text += "".join(f"pure {one} {other} 9604/1\n" for one, other in zip(names, names[1:])) + "home aa bn"
        self.check(text, "sink", [f"{9604 ** 39} / 1 {39 * size((2, 0, 0, 4))}"])
        self.check(text.replace("9604/1", "1/9604"), "sink", [f"1 / {9604 ** 39} -{39 * size((2, 0, 0, 4))}"])


if __name__ == "__main__":
    unittest.main()
