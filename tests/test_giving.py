import itertools
import string
import unittest

from notejar.errors import NoNote
from notejar.giving import given_text, is_given, read_given
from things import LONGEST_PATH, WRONG_GIVEN, WRONG_MOMENTS, WRONG_NAMES, WRONG_NOTE_NAMES, WRONG_PATHS, WRONG_REACHES
from things import WRONG_TRUTHS, WRONG_WORTHS, refusal, with_part

BARE = ("n", "5", None, None, None, None, False, "any")
FULL = ("n", "5", "a.b", "/x", 70, 3, True, "near")
FULL_TEXT = "n=5; for a.b; under /x; until 70; lasts 3; safe; near"
NAME_SIGNS = string.ascii_letters + string.digits + "-_"
WORTH_SIGNS = [chr(code) for code in range(ord("!"), ord("~") + 1) if chr(code) not in ";,="]
HOUSE, PATH, UNTIL, LASTS, SAFE, REACH = range(2, 8)


def not_none(things):
    return [thing for thing in things if thing is not None]


class Given(unittest.TestCase):
    def check_part(self, place, right, wrong):
        for given in (BARE, FULL):
            for thing in right:
                self.assertIs(is_given(with_part(given, place, thing)), True, (place, thing))
            for thing in wrong:
                spoilt = with_part(given, place, thing)
                self.assertIs(is_given(spoilt), False, spoilt)
                self.assertIs(refusal(given_text, spoilt), NoNote, spoilt)

    def test_with_all_parts_and_with_none(self):
        self.assertIs(is_given(BARE), True)
        self.assertIs(is_given(FULL), True)

    def test_how_many_signs_a_name_has(self):
        self.check_part(0, ["a" * count for count in range(1, 11)], ["a" * count for count in (0, 11, 12, 300)])

    def test_each_sign_of_a_name(self):
        for code in range(0x3000):
            told = chr(code) in NAME_SIGNS
            for name in (chr(code), "a" + chr(code), chr(code) + "a"):
                self.assertIs(is_given(with_part(BARE, 0, name)), told, code)

    def test_names(self):
        self.check_part(0, ["N", "7", "-", "_", "a-b_C9", "safe-", "own-", "Zz-09_aA__"], WRONG_NOTE_NAMES)

    def test_how_many_signs_a_worth_has(self):
        self.check_part(1, ["a" * count for count in range(13)], ["a" * count for count in (13, 14, 300)])

    def test_each_sign_of_a_worth(self):
        for code in range(0x3000):
            told = chr(code) in WORTH_SIGNS
            for worth in (chr(code), "a" + chr(code), chr(code) + "a"):
                self.assertIs(is_given(with_part(BARE, 1, worth)), told, code)

    def test_worths(self):
        self.check_part(1, ["", "!", "~", "!~", "\"quoted\"", "a/b?c:d", "\\", "A" * 12], WRONG_WORTHS)

    def test_the_house(self):
        self.check_part(HOUSE, [None, "a", "a.b", "a.b.c.d.e"], not_none(WRONG_NAMES) + [False, (), []])

    def test_the_path(self):
        self.check_part(PATH, [None, "/", "/a", LONGEST_PATH], not_none(WRONG_PATHS) + [False, (), []])

    def test_until_and_lasts(self):
        for place in (UNTIL, LASTS):
            self.check_part(place, [None, 0, 1, 70, 9998, 9999], not_none(WRONG_MOMENTS))

    def test_safe(self):
        self.check_part(SAFE, [True, False], WRONG_TRUTHS)

    def test_the_reach(self):
        self.check_part(REACH, ["any", "near"], WRONG_REACHES)

    def test_eight_parts(self):
        for thing in (BARE[:7], BARE + (None,), FULL[:7], FULL + ("near",), FULL[1:], (FULL,), FULL + FULL, ()):
            self.assertIs(is_given(thing), False, thing)

    def test_a_tuple(self):
        for thing in (list(BARE), list(FULL), FULL_TEXT, "", None, True, 8):
            self.assertIs(is_given(thing), False, thing)

    def test_wrong_ones(self):
        for thing in WRONG_GIVEN:
            self.assertIs(is_given(thing), False, repr(thing))


class Reading(unittest.TestCase):
    def check(self, text, *told):
        """Told are pairs of a place and what stands there; elsewhere it is as in n=5 alone."""
        given = BARE
        for place, part in told:
            given = with_part(given, place, part)
        self.assertEqual(repr(read_given(text)), repr(given), repr(text))

    def check_nothing_is_told(self, *parts):
        for part in parts:
            self.check("n=5;" + part)
            self.check("n=5; " + part)
            self.check("n=5; " + part + " ; until 7", (UNTIL, 7))

    def test_the_first_part_alone(self):
        self.check("n=5")
        self.assertEqual(read_given("N-_9=!~"), with_part(with_part(BARE, 0, "N-_9"), 1, "!~"))
        self.assertEqual(read_given("abcdefghij=abcdefghijkl"), ("abcdefghij", "abcdefghijkl") + BARE[2:])

    def test_all_parts(self):
        self.assertEqual(read_given(FULL_TEXT), FULL)

    def test_each_part_by_itself(self):
        for part, place, thing in (("for a.b", HOUSE, "a.b"), ("under /x", PATH, "/x"), ("until 70", UNTIL, 70),
                                   ("lasts 3", LASTS, 3), ("safe", SAFE, True), ("near", REACH, "near"),
                                   ("any", REACH, "any")):
            self.check("n=5; " + part, (place, thing))
            self.check("n=5;" + part + ";", (place, thing))

    def test_some_parts(self):
        self.check("n=5; for a; safe", (HOUSE, "a"), (SAFE, True))
        self.check("n=5; under /; lasts 0; near", (PATH, "/"), (LASTS, 0), (REACH, "near"))
        self.check("n=5; until 9999; lasts 9999", (UNTIL, 9999), (LASTS, 9999))

    def test_the_parts_in_each_order(self):
        for parts in itertools.permutations(FULL_TEXT.split("; ")[1:]):
            self.assertEqual(read_given("; ".join(["n=5"] + list(parts))), FULL, parts)

    def test_blanks_around_the_parts(self):
        for blanks in ("", " ", "  ", "       "):
            text = blanks + (blanks + ";" + blanks).join(FULL_TEXT.split("; ")) + blanks
            self.assertEqual(read_given(text), FULL, repr(text))
        self.check("   n=5   ;safe;   near", (SAFE, True), (REACH, "near"))

    def test_only_blanks_are_left_out(self):
        for sign in "\n\t\r\v\f\0\u00a0\u2003\x1f\x85":
            self.check_nothing_is_told(sign + "safe", "safe" + sign, "for a.b" + sign, sign + "until 5", "until 5" + sign)
            for text in (sign + "n=5", "n=5" + sign, sign, sign + "n=5; safe"):
                self.assertIs(refusal(read_given, text), NoNote, repr(text))

    def test_blanks_within(self):
        self.check_nothing_is_told("for  a.b", "under  /x", "until  5", "lasts  5", "for a. b", "under /x y", "until 5 5",
                                   "until 1 0", "s afe", "n ear", "a ny", "f or a.b", "for\ta.b", "until\n5")
        for text in ("n =5", "n= 5", "n = 5", "n n=5", "n=5 5", "n=5 safe"):
            self.assertIs(refusal(read_given, text), NoNote, text)

    def test_a_blank_behind_the_first_parts_sign_is_around_it(self):
        self.assertEqual(read_given("n= ; safe"), ("n", "", None, None, None, None, True, "any"))
        self.assertEqual(read_given(" n= "), ("n", "", None, None, None, None, False, "any"))

    def test_unknown_parts(self):
        self.check_nothing_is_told("x", "x y", "unsafe", "far", "on /", "path /x", "house a.b", "n=6", "m=7", "=", "5", "made 3",
                                   "only a.b", "\u00e9", "safe,near", "until=5", "for=a.b", "None", "True")

    def test_empty_parts(self):
        self.check("n=5;")
        self.check("n=5;;;")
        self.check("n=5; ;  ;")
        self.check("n=5;; safe;;", (SAFE, True))

    def test_of_several_the_last_one_counts(self):
        self.check("n=5; for a; for b.c", (HOUSE, "b.c"))
        self.check("n=5; under /x; under /", (PATH, "/"))
        self.check("n=5; until 7; until 0", (UNTIL, 0))
        self.check("n=5; lasts 0; lasts 7; lasts 5", (LASTS, 5))
        self.check("n=5; safe; safe", (SAFE, True))
        self.check("n=5; near; near", (REACH, "near"))
        self.check("n=5; until 7; safe; lasts 2; until 9", (UNTIL, 9), (LASTS, 2), (SAFE, True))

    def test_any_and_near_tell_the_same(self):
        self.check("n=5; near; any", (REACH, "any"))
        self.check("n=5; any; near", (REACH, "near"))
        self.check("n=5; near; any; near", (REACH, "near"))
        self.check("n=5; any; near; any", (REACH, "any"))

    def test_what_tells_nothing_takes_nothing_back(self):
        self.check("n=5; for a; for A; for", (HOUSE, "a"))
        self.check("n=5; under /x; under x", (PATH, "/x"))
        self.check("n=5; until 7; until 12345; until -1; until", (UNTIL, 7))
        self.check("n=5; lasts 7; lasts x", (LASTS, 7))
        self.check("n=5; safe; safe no; near; near not", (SAFE, True), (REACH, "near"))

    def test_a_house_is_a_name(self):
        self.check_nothing_is_told("for", "for ", "fora.b", "for.a", "xfor a", "for for a")
        for thing in WRONG_NAMES:
            if isinstance(thing, str):
                self.check_nothing_is_told("for " + thing)
        self.check("n=5; for for", (HOUSE, "for"))
        self.check("n=5; for a.b.c.d.e", (HOUSE, "a.b.c.d.e"))

    def test_a_path_is_one(self):
        self.check_nothing_is_told("under", "under ", "under/x", "xunder /x")
        for thing in WRONG_PATHS:
            # A blank at the end stands around the part.
            if isinstance(thing, str) and thing.strip(" ") == thing:
                self.check_nothing_is_told("under " + thing)
        self.check("n=5; under " + LONGEST_PATH, (PATH, LONGEST_PATH))
        self.check("n=5; under / ", (PATH, "/"))

    def test_a_moment_is_1_to_4_figures(self):
        for word, place in (("until", UNTIL), ("lasts", LASTS)):
            for figures in ("0", "7", "70", "123", "9999", "00", "007", "0000", "0070"):
                self.check("n=5; " + word + " " + figures, (place, int(figures)))
            for wrong in ("", "10000", "00000", "00070", "12345", "-1", "+1", "-0", "1_0", "1.0", "0x1", "1e1", "a", "7a", "None",
                          "\u0661", "\u00b2", "\uff11", "1\n", "\n1", "7,"):
                self.check_nothing_is_told(word + " " + wrong)
            self.check_nothing_is_told(word, word + "7", "x" + word + " 7")

    def test_more_behind_the_single_words(self):
        self.check_nothing_is_told("safe 1", "safe safe", "safe  x", "safe=1", "safely", "any x", "near x", "any any", "nearby",
                                   "anyone", "near any", "safe near")

    def test_great_letters(self):
        self.check_nothing_is_told("Safe", "SAFE", "Any", "ANY", "Near", "NEAR", "For a.b", "FOR a.b", "Under /x", "UNDER /x",
                                   "Until 5", "UNTIL 5", "Lasts 5", "LASTS 5")

    def test_the_first_part_tells_a_name_and_a_worth_alone(self):
        self.assertEqual(read_given("safe=near"), ("safe", "near") + BARE[2:])
        self.check("n=5; n=6")
        for text in ("safe", "safe; n=5", "; n=5", "for a.b; n=5"):
            self.assertIs(refusal(read_given, text), NoNote, text)

    def test_an_empty_worth(self):
        self.assertEqual(read_given("n="), ("n", "") + BARE[2:])
        self.assertEqual(read_given("n=; safe"), ("n", "", None, None, None, None, True, "any"))

    def test_the_first_part_is_none(self):
        for text in ("", " ", ";", ";;", " ; ", "n", "5", "=", "=5", "n==", "n=5=6", "n==5", "n=5,6", "n:5", ";n=5", "\nn=5",
                     "n=5\n", "n=\u00e9", "\u00e9=5", "abcdefghijk=5", "n=abcdefghijklm", "a b=5", "a.b=5", "n=5=; safe"):
            self.assertIs(refusal(read_given, text), NoNote, repr(text))
            self.assertIs(refusal(read_given, text + "; safe"), NoNote, repr(text))

    def test_wrong_names_and_worths(self):
        for thing in WRONG_NOTE_NAMES:
            if isinstance(thing, str) and thing.lstrip(" ") == thing:
                self.assertIs(refusal(read_given, thing + "=5"), NoNote, repr(thing))
        for thing in WRONG_WORTHS:
            if isinstance(thing, str) and thing.rstrip(" ") == thing and not thing.startswith(";") and thing != "a;b":
                self.assertIs(refusal(read_given, "n=" + thing), NoNote, repr(thing))

    def test_a_worth_ends_at_the_first_parting(self):
        self.assertEqual(read_given("n=a;b"), ("n", "a") + BARE[2:])

    def test_each_sign_of_the_first_part(self):
        for code in range(0x300):
            sign = chr(code)
            if sign not in " ;=":
                self.assertIs(refusal(read_given, "a" + sign + "=5"), None if sign in NAME_SIGNS else NoNote, code)
                self.assertIs(refusal(read_given, "n=5" + sign), None if sign in WORTH_SIGNS else NoNote, code)

    def test_what_is_no_text(self):
        for thing in (None, True, False, 0, 5, [], (), ["n=5"], ("n=5",), FULL, BARE, list(FULL)):
            self.assertIs(refusal(read_given, thing), NoNote, repr(thing))


class Writing(unittest.TestCase):
    def test_the_documents_own(self):
        self.assertEqual(given_text(FULL), FULL_TEXT)

    def test_the_first_part_alone(self):
        self.assertEqual(given_text(BARE), "n=5")
        self.assertEqual(given_text(with_part(BARE, 1, "")), "n=")

    def test_each_part_by_itself(self):
        for place, thing, part in ((HOUSE, "a.b", "for a.b"), (PATH, "/x", "under /x"), (UNTIL, 70, "until 70"),
                                   (LASTS, 3, "lasts 3"), (SAFE, True, "safe"), (REACH, "near", "near")):
            self.assertEqual(given_text(with_part(BARE, place, thing)), "n=5; " + part)

    def test_each_part_left_out(self):
        for place, part in ((HOUSE, "for a.b"), (PATH, "under /x"), (UNTIL, "until 70"), (LASTS, "lasts 3"), (SAFE, "safe"),
                            (REACH, "near")):
            self.assertEqual(given_text(with_part(FULL, place, BARE[place])), FULL_TEXT.replace("; " + part, ""))

    def test_moments_at_their_edges(self):
        for moment in (0, 7, 9999):
            self.assertEqual(given_text(with_part(BARE, UNTIL, moment)), f"n=5; until {moment}")
            self.assertEqual(given_text(with_part(BARE, LASTS, moment)), f"n=5; lasts {moment}")

    def test_what_is_read_of_it_is_what_was_given(self):
        for given in itertools.product(("n", "Own-_9"), ("", "5", "!~"), (None, "a", "a.b"), (None, "/", "/x/y"),
                                       (None, 0, 70, 9999), (None, 0, 3, 9999), (True, False), ("any", "near")):
            self.assertEqual(repr(read_given(given_text(given))), repr(given))

    def test_refusals(self):
        for thing in WRONG_GIVEN:
            self.assertIs(refusal(given_text, thing), NoNote, repr(thing))


if __name__ == "__main__":
    unittest.main()
