import itertools
import string
import unittest

from notejar.errors import NoName, NoTable
from notejar.names import is_label, is_name, is_rule, is_table, labels, open_end, own_end, within
from things import EIGHT_RULES, WRONG_NAMES, WRONG_TABLES, refusal

SIGNS = string.ascii_lowercase + string.digits
FIVE = "a.b.c.d.e"


class Labels(unittest.TestCase):
    def test_how_many_signs(self):
        for count in range(1, 9):
            self.assertIs(is_label("a" * count), True, count)
        for count in (0, 9, 10, 300):
            self.assertIs(is_label("a" * count), False, count)

    def test_each_sign_alone(self):
        for code in range(0x3000):
            self.assertIs(is_label(chr(code)), chr(code) in SIGNS, code)

    def test_each_sign_within_first_and_last(self):
        for code in range(0x3000):
            sign = chr(code)
            self.assertIs(is_label("a" + sign + "b"), sign in SIGNS + "-", code)
            self.assertIs(is_label(sign + "ab"), sign in SIGNS, code)
            self.assertIs(is_label("ab" + sign), sign in SIGNS, code)

    def test_bars(self):
        for text in ("a-b", "a--b", "0-9", "a-----b8"):
            self.assertIs(is_label(text), True, text)
        for text in ("-", "--", "-a", "a-", "-a-"):
            self.assertIs(is_label(text), False, text)

    def test_letters_and_figures_from_beyond(self):
        for text in ("A", "aB", "\u00e4", "a\u00df", "\u0661", "1\u00b2", "\uff11", "\uff41", "\u0430", "\U0001d7d8"):
            self.assertIs(is_label(text), False, text)

    def test_blanks_line_feeds_dots(self):
        for text in (" ", "a ", " a", "a b", "a\n", "\na", "aaaaaaa\n", "a\t", "a.b", ".", "a_b"):
            self.assertIs(is_label(text), False, repr(text))

    def test_figures_alone_are_a_label(self):
        self.assertIs(is_label("12345678"), True)


class Names(unittest.TestCase):
    def test_how_many_labels(self):
        for text in ("a", "a.b", "a.b.c", "a.b.c.d", FIVE, ".".join(["abcdefgh"] * 5)):
            self.assertIs(is_name(text), True, text)
        for text in ("", FIVE + ".f", FIVE + ".f.g", ".".join(["a"] * 100)):
            self.assertIs(is_name(text), False, text)

    def test_dots(self):
        for text in (".", "..", ".a", "a.", ".a.b", "a.b.", "a..b", "a.b..c", "a...b"):
            self.assertIs(is_name(text), False, text)

    def test_figures_alone(self):
        for text in ("1", "12345678", "a.1", "a.b.00", "1.2", "1.2.3.4"):
            self.assertIs(is_name(text), False, text)
        for text in ("1.a", "1.2.a", "1.2.3.4.a", "1.a1", "a.1b", "1-1", "a.0-0"):
            self.assertIs(is_name(text), True, text)

    def test_each_label_is_one(self):
        for wrong in ("-a", "a-", "A", "a b", "a\n", "aaaaaaaaa", "\u00e9", "*", "!a", " "):
            for text in (wrong, wrong + ".b", "b." + wrong, "b." + wrong + ".c"):
                self.assertIs(is_name(text), False, repr(text))

    def test_wrong_names(self):
        for thing in WRONG_NAMES:
            self.assertIs(is_name(thing), False, repr(thing))

    def test_labels(self):
        self.assertEqual(labels("a"), ["a"])
        self.assertEqual(labels("a-b.12.c"), ["a-b", "12", "c"])
        self.assertEqual(labels(FIVE), ["a", "b", "c", "d", "e"])
        self.assertIsInstance(labels(FIVE), list)

    def test_labels_refuses(self):
        for thing in WRONG_NAMES:
            self.assertIs(refusal(labels, thing), NoName, repr(thing))

    def test_within(self):
        for one, other in (("a", "a"), ("a.b", "b"), ("a.b.c", "b.c"), ("a.b.c", "c"), (FIVE, FIVE), (FIVE, "e")):
            self.assertIs(within(one, other), True, (one, other))
        for one, other in (("b", "a.b"), ("ab", "b"), ("a.bc", "c"), ("xb.c", "b.c"), ("a.b", "a"), ("a.b.c", "a.b"),
                           ("a.b.c", "a.c"), ("a", "b"), ("a-b", "b"), ("e", FIVE)):
            self.assertIs(within(one, other), False, (one, other))

    def test_within_refuses_at_either_place(self):
        for thing in WRONG_NAMES:
            self.assertIs(refusal(within, thing, "a"), NoName, repr(thing))
            self.assertIs(refusal(within, "a", thing), NoName, repr(thing))
            self.assertIs(refusal(within, thing, thing), NoName, repr(thing))


class Rules(unittest.TestCase):
    def test_the_three_forms(self):
        for text in ("a", "a.b", FIVE, "*.a", "*.a.b", "*." + FIVE, "!a.b", "!1.b", "!" + FIVE, "1.a", "*.1.a"):
            self.assertIs(is_rule(text), True, text)

    def test_an_exception_has_two_labels_or_more(self):
        for text in ("!a", "!", "!.", "!a.", "!.a", "!1", "!a.1", "! a.b", "!!a.b", "!" + FIVE + ".f", "!*.a", "!*.a.b"):
            self.assertIs(is_rule(text), False, text)

    def test_a_star_stands_first_with_a_dot(self):
        for text in ("*", "*.", "*.*", "*.*.a", "*a", "*a.b", "a.*", "a.*.b", "a*.b", "**.a", "*..a", ".*.a", "*.!a.b",
                     "*.1", "*." + FIVE + ".f"):
            self.assertIs(is_rule(text), False, text)

    def test_what_is_no_name_is_no_rule(self):
        for text in ("", ".", "A", "*.A", "!A.b", "a\n", "*.a\n", "!a.b\n", "1", "a.1", FIVE + ".f"):
            self.assertIs(is_rule(text), False, repr(text))

    def test_tables(self):
        for table in ((), ("a",), ("a", "b"), ("!a.b", "*.b", "b"), ("a", "a.b", "ab"), EIGHT_RULES):
            self.assertIs(is_table(table), True, table)

    def test_wrong_tables(self):
        for thing in WRONG_TABLES:
            self.assertIs(is_table(thing), False, repr(thing))

    def test_each_two_neighbours_rise(self):
        for order in itertools.permutations(("!a.b", "*.c", "a", "b")):
            self.assertIs(is_table(order), list(order) == sorted(order), order)
        for place in range(8):
            twice = EIGHT_RULES[:place] + (EIGHT_RULES[place],) + EIGHT_RULES[place:-1]
            self.assertIs(is_table(twice), twice == EIGHT_RULES, twice)

    def test_a_wrong_rule_at_any_place(self):
        for place in range(8):
            for wrong in ("A", "", "!x", 1, None, True, ("a",), ["a"]):
                table = EIGHT_RULES[:place] + (wrong,) + EIGHT_RULES[place + 1:]
                self.assertIs(is_table(table), False, table)


class Ends(unittest.TestCase):
    def check(self, table, name, open_one, own_one):
        self.assertEqual(open_end(table, name), open_one, (table, name))
        self.assertEqual(own_end(table, name), own_one, (table, name))

    def test_with_none_the_last_label_is_open(self):
        self.check((), "a.b.c", "c", "b.c")
        self.check((), FIVE, "e", "d.e")
        self.check(("x", "y.c"), "a.b.c", "c", "b.c")
        self.check(("a", "a.b"), "a.b.c", "c", "b.c")

    def test_with_an_end_in_the_table(self):
        self.check(("b.c",), "a.b.c", "b.c", "a.b.c")
        self.check(("b.c",), "x.a.b.c", "b.c", "a.b.c")
        self.check(("c",), "a.b.c", "c", "b.c")
        self.check(("b.c",), "ab.c", "c", "ab.c")
        self.check(("b.c.d.e",), FIVE, "b.c.d.e", FIVE)

    def test_with_a_star(self):
        self.check(("*.c",), "b.c", "b.c", None)
        self.check(("*.c",), "a.b.c", "b.c", "a.b.c")
        self.check(("*.c",), "x.a.b.c", "b.c", "a.b.c")
        self.check(("*.b.c",), "x.a.b.c", "a.b.c", "x.a.b.c")
        self.check(("*.b.c",), "b.c", "c", "b.c")
        self.check(("*.a",), "b.c", "c", "b.c")
        self.check(("*.c",), "c", "c", None)

    def test_a_longer_end_is_ahead_of_a_shorter(self):
        self.check(("b.c", "c"), "a.b.c", "b.c", "a.b.c")
        self.check(("a.b.c", "b.c", "c"), "x.a.b.c", "a.b.c", "x.a.b.c")
        self.check(("*.b.c", "c"), "x.a.b.c", "a.b.c", "x.a.b.c")
        self.check(("*.b.c", "b.c"), "x.a.b.c", "a.b.c", "x.a.b.c")
        self.check(("*.c", "a.b.c"), "x.a.b.c", "a.b.c", "x.a.b.c")
        self.check(("*.b.c", "*.c"), "x.a.b.c", "a.b.c", "x.a.b.c")
        self.check(("*.c", "c"), "a.b.c", "b.c", "a.b.c")

    def test_with_an_exception(self):
        self.check(("!b.c", "*.c"), "b.c", "c", "b.c")
        self.check(("!b.c", "*.c"), "a.b.c", "c", "b.c")
        self.check(("!b.c", "*.c"), "a.x.c", "x.c", "a.x.c")
        self.check(("!a.b.c",), "x.a.b.c", "b.c", "a.b.c")
        self.check(("!" + FIVE,), FIVE, "b.c.d.e", FIVE)

    def test_an_exception_is_ahead_of_longer_ends(self):
        self.check(("!b.c", "x.a.b.c"), "x.a.b.c", "c", "b.c")
        self.check(("!b.c", "*.b.c"), "x.a.b.c", "c", "b.c")
        self.check(("!b.c", "b.c"), "b.c", "c", "b.c")

    def test_of_several_exceptions_the_longest_counts(self):
        table = ("!a.b.c", "!b.c")
        self.check(table, "x.a.b.c", "b.c", "a.b.c")
        self.check(table, "a.b.c", "b.c", "a.b.c")
        self.check(table, "x.b.c", "c", "b.c")
        self.check(("!b.c", "!x.a.b.c"), "x.a.b.c", "a.b.c", "x.a.b.c")

    def test_no_own_end(self):
        self.check((), "c", "c", None)
        self.check(("c",), "c", "c", None)
        self.check(("b.c",), "b.c", "b.c", None)
        self.check(("b.c",), "c", "c", None)
        self.check((FIVE,), FIVE, FIVE, None)
        self.check(("*.b.c.d.e",), FIVE, FIVE, None)

    def test_eight_rules(self):
        self.check(EIGHT_RULES, "x.a.b", "b", "a.b")
        self.check(EIGHT_RULES, "x.y.c", "y.c", "x.y.c")
        self.check(EIGHT_RULES, "x.y.i", "i", "y.i")

    def test_refusals(self):
        for call in (open_end, own_end):
            for table in WRONG_TABLES:
                self.assertIs(refusal(call, table, "a.b"), NoTable, repr(table))
            for name in WRONG_NAMES:
                self.assertIs(refusal(call, (), name), NoName, repr(name))
                self.assertIs(refusal(call, ("a", "b"), name), NoName, repr(name))

    def test_no_table_is_raised_where_both_are_due(self):
        for call in (open_end, own_end):
            for table in WRONG_TABLES:
                for name in WRONG_NAMES:
                    self.assertIs(refusal(call, table, name), NoTable, repr((table, name)))


if __name__ == "__main__":
    unittest.main()
