import unittest

from notejar.asks import is_ask, is_near
from notejar.errors import NoAsk, NoTable
from things import LONGEST_PATH, WRONG_ASKS, WRONG_NAMES, WRONG_PATHS, WRONG_TABLES, WRONG_TRUTHS
from things import refusal, with_part

ASK = (True, "a.b", "/x", "c.b")


class Asks(unittest.TestCase):
    def test_asks_that_are_so(self):
        for safe in (True, False):
            for house in ("a", "a.b", "a.b.c.d.e", "1.a"):
                for path in ("/", "/x", "/x/", LONGEST_PATH):
                    for origin in (None, "a", "a.b", "a.b.c.d.e"):
                        ask = (safe, house, path, origin)
                        self.assertIs(is_ask(ask), True, ask)

    def check_part(self, place, wrong):
        for ask in (ASK, (False, "h", "/", None)):
            for thing in wrong:
                spoilt = with_part(ask, place, thing)
                self.assertIs(is_ask(spoilt), False, spoilt)
                self.assertIs(refusal(is_near, (), spoilt), NoAsk, spoilt)

    def test_safe_is_a_truth(self):
        self.check_part(0, WRONG_TRUTHS)

    def test_the_house_is_a_name(self):
        self.check_part(1, WRONG_NAMES)

    def test_the_path_is_one(self):
        self.check_part(2, WRONG_PATHS)

    def test_the_origin_is_a_name_or_none(self):
        self.check_part(3, [thing for thing in WRONG_NAMES if thing is not None] + [False, 0, (), []])

    def test_four_parts(self):
        for thing in (ASK[:3], ASK + (None,), ASK + ("a",), ASK[1:], ASK + ASK, (ASK,), (True, "a.b"), ()):
            self.assertIs(is_ask(thing), False, thing)

    def test_a_tuple(self):
        for thing in (list(ASK), [], "a.b", "", True, False, None, 0, 4, [ASK]):
            self.assertIs(is_ask(thing), False, thing)

    def test_wrong_asks(self):
        for thing in WRONG_ASKS:
            self.assertIs(is_ask(thing), False, repr(thing))


class Near(unittest.TestCase):
    def check(self, table, house, origin, told):
        for safe in (True, False):
            for path in ("/", "/x"):
                ask = (safe, house, path, origin)
                self.assertIs(is_near(table, ask), told, (table, ask))

    def test_without_an_origin(self):
        for table in ((), ("b",), ("a.b",), ("*.b",)):
            for house in ("b", "a.b", "x.a.b"):
                self.check(table, house, None, True)

    def test_the_origin_is_the_house(self):
        for table in ((), ("a.b",), ("*.b",), ("x.a.b",)):
            for house in ("b", "a.b", "x.a.b"):
                self.check(table, house, house, True)

    def test_the_same_own_end(self):
        self.check((), "x.a.b", "y.a.b", True)
        self.check((), "x.a.b", "a.b", True)
        self.check((), "a.b", "x.a.b", True)
        self.check(("a.b",), "x.a.b", "y.x.a.b", True)
        self.check(("*.b",), "x.a.b", "y.x.a.b", True)
        self.check(("!a.b", "*.b"), "x.a.b", "y.a.b", True)

    def test_other_own_ends(self):
        self.check((), "x.a", "x.b", False)
        self.check((), "a.b", "c.b", False)
        self.check((), "x.ab.c", "x.b.c", False)
        self.check(("a.b",), "x.a.b", "y.a.b", False)
        self.check(("*.b",), "x.a.b", "y.a.b", False)
        self.check(("!a.b", "*.b"), "x.a.b", "y.c.b", False)

    def test_one_without_an_own_end(self):
        self.check((), "b", "a.b", False)
        self.check((), "a.b", "b", False)
        self.check(("a.b",), "a.b", "x.a.b", False)
        self.check(("a.b",), "x.a.b", "a.b", False)

    def test_both_without_an_own_end(self):
        self.check((), "a", "b", False)
        self.check(("a.b",), "a.b", "b", False)
        self.check(("*.b",), "a.b", "c.b", False)

    def test_refusals(self):
        for table in WRONG_TABLES:
            self.assertIs(refusal(is_near, table, ASK), NoTable, repr(table))
        for ask in WRONG_ASKS:
            self.assertIs(refusal(is_near, (), ask), NoAsk, repr(ask))

    def test_no_table_is_raised_where_both_are_due(self):
        for table in WRONG_TABLES:
            for ask in WRONG_ASKS:
                self.assertIs(refusal(is_near, table, ask), NoTable, repr((table, ask)))


if __name__ == "__main__":
    unittest.main()
