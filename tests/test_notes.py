import itertools
import unittest

from notejar.errors import NoAsk, NoNote, NoNumber, NoTable
from notejar.notes import goes, has_ended, is_note, key, made, why_refused
from things import LONGEST_PATH, WRONG_ASKS, WRONG_GIVEN, WRONG_MOMENTS, WRONG_NAMES, WRONG_NOTE_NAMES, WRONG_PATHS
from things import WRONG_REACHES, WRONG_TABLES, WRONG_TRUTHS, WRONG_WORTHS, refusal, with_part

WORDS = ("foreign", "open", "unsafe", "marked", "far")
ASK = (True, "a.b", "/x/y", None)
GIVEN = ("n", "5", None, None, None, None, False, "any")
NOTE = ("n", "5", "a.b", True, "/x", 70, True, "near", 3, 9)
HOUSE, EXACT, PATH, ENDS, SAFE, REACH, MADE, USED = range(2, 10)


def given(name="n", house=None, path=None, until=None, lasts=None, safe=False, reach="any"):
    return (name, "5", house, path, until, lasts, safe, reach)


def ask(safe=True, house="a.b", path="/x/y", origin=None):
    return (safe, house, path, origin)


def note(house="a.b", exact=False, path="/x", ends=None, safe=False, reach="any"):
    return ("n", "5", house, exact, path, ends, safe, reach, 3, 9)


def so_far_as(due):
    """An ask of the house a.b, and what is given by it, for which just the words that are due are so."""
    houses = {(False, False): "a.b", (False, True): "b", (True, False): "c.d", (True, True): "c"}
    return (ask(safe="unsafe" not in due, origin="x.y" if "far" in due else "c.a.b"),
            given(name="own-x" if "marked" in due else "n", house=houses["foreign" in due, "open" in due], path="/x",
                  safe="unsafe" in due, reach="near"))


class WhyRefused(unittest.TestCase):
    def check(self, told, asked, what, table=()):
        self.assertEqual(why_refused(table, asked, what), told, (table, asked, what))
        self.assertIs(refusal(made, table, asked, what, 5), None if told is None else NoNote, (table, asked, what))

    def test_each_word_is_ahead_of_all_behind_it(self):
        for count in range(len(WORDS) + 1):
            for due in itertools.combinations(WORDS, count):
                self.check(due[0] if due else None, *so_far_as(due))

    def test_none(self):
        self.check(None, ASK, GIVEN)
        self.check(None, ask(safe=False), GIVEN)
        self.check(None, ask(), given(safe=True))
        self.check(None, ask(origin="x.y"), GIVEN)

    def test_foreign(self):
        for house in ("c.d", "c", "x.a.b", "a", "a.c", "aa.b", "a.bb"):
            self.check("foreign", ask(), given(house=house))
        self.check("foreign", ask(house="b"), given(house="a.b"))
        self.check("foreign", ask(house="xa.b"), given(house="a.b"))
        for house in ("a.b", "x.a.b", "y.x.a.b"):
            self.check(None, ask(house=house), given(house="a.b"))
            self.check(None, ask(house=house), given())

    def test_open(self):
        self.check("open", ask(), given(house="b"))
        self.check("open", ask(house="x.a.b"), given(house="b"))
        self.check("open", ask(house="x.a.b"), given(house="a.b"), ("a.b",))
        self.check("open", ask(house="x.a.b"), given(house="a.b"), ("*.b",))
        self.check(None, ask(house="x.a.b"), given(house="a.b"), ("!a.b", "*.b"))
        self.check(None, ask(house="x.a.b"), given(house="a.b"), ("x.b",))
        self.check("open", ask(house="x.a.b"), given(house="b"), ("a.b",))

    def test_a_house_that_is_its_own_open_end_may_give_for_itself(self):
        self.check(None, ask(house="b"), given(house="b"))
        self.check(None, ask(house="b"), given())
        self.check(None, ask(house="a.b"), given(house="a.b"), ("a.b",))
        self.check(None, ask(house="a.b"), given(house="a.b"), ("*.b",))

    def test_unsafe(self):
        self.check("unsafe", ask(safe=False), given(safe=True))
        self.check("unsafe", ask(safe=False), given(safe=True, house="a.b", path="/", reach="near"))
        self.check(None, ask(safe=True), given(safe=True))
        self.check(None, ask(safe=False), given(safe=False))
        self.check(None, ask(safe=True), given(safe=False))

    def test_names_that_begin_with_safe(self):
        for name in ("safe-", "safe-x", "safe-own-"):
            self.check("marked", ask(), given(name=name))
            self.check("marked", ask(safe=False), given(name=name))
            self.check("marked", ask(), given(name=name, path="/"))
            self.check(None, ask(), given(name=name, safe=True))
            self.check(None, ask(), given(name=name, safe=True, house="a.b", path="/x"))
            self.check("unsafe", ask(safe=False), given(name=name, safe=True))

    def test_names_that_begin_with_own(self):
        for name in ("own-", "own-x", "own-safe-"):
            self.check(None, ask(), given(name=name, safe=True, path="/"))
            self.check(None, ask(house="b"), given(name=name, safe=True, path="/", house="b"))
            self.check("marked", ask(), given(name=name, safe=False, path="/"))
            self.check("marked", ask(), given(name=name, safe=True, path="/", house="a.b"))
            self.check("marked", ask(house="x.a.b"), given(name=name, safe=True, path="/", house="a.b"))
            self.check("marked", ask(), given(name=name, safe=True, path="/x"))
            self.check("marked", ask(), given(name=name, safe=True, path="//"))
            self.check("marked", ask(path="/"), given(name=name, safe=True))
            self.check("unsafe", ask(safe=False), given(name=name, safe=True, path="/"))

    def test_names_that_begin_otherwise(self):
        for name in ("safe", "safe_x", "Safe-x", "SAFE-", "xsafe-", "-safe-", "own", "own_", "Own-x", "OWN-", "xown-", "n-own-",
                     "saf-e", "ow-n"):
            self.check(None, ask(), given(name=name))
            self.check(None, ask(safe=False), given(name=name, house="a.b", path="/x"))

    def test_far(self):
        for origin, told in ((None, None), ("a.b", None), ("x.a.b", None), ("c.b", "far"), ("b", "far"), ("x.y", "far")):
            self.check(told, ask(origin=origin), given(reach="near"))
            self.check(None, ask(origin=origin), given(reach="any"))
        self.check("far", ask(house="x.a.b", origin="y.a.b"), given(reach="near"), ("a.b",))
        self.check(None, ask(house="x.a.b", origin="y.a.b"), given(reach="near"))

    def test_refusals(self):
        for table in WRONG_TABLES:
            self.assertIs(refusal(why_refused, table, ASK, GIVEN), NoTable, repr(table))
        for wrong in WRONG_ASKS:
            self.assertIs(refusal(why_refused, (), wrong, GIVEN), NoAsk, repr(wrong))
        for wrong in WRONG_GIVEN:
            self.assertIs(refusal(why_refused, (), ASK, wrong), NoNote, repr(wrong))

    def test_the_order_of_refusals(self):
        for wrong_ask, wrong_given in itertools.product(WRONG_ASKS, WRONG_GIVEN):
            self.assertIs(refusal(why_refused, (), wrong_ask, wrong_given), NoAsk)
            self.assertIs(refusal(why_refused, ["a"], wrong_ask, wrong_given), NoTable)
            self.assertIs(refusal(why_refused, None, ASK, wrong_given), NoTable)
            self.assertIs(refusal(why_refused, ("b", "a"), wrong_ask, GIVEN), NoTable)


class Notes(unittest.TestCase):
    def check_part(self, place, right, wrong):
        for whole in (NOTE, ("N", "", "h", False, "/", None, False, "any", 0, 9999)):
            for thing in right:
                self.assertIs(is_note(with_part(whole, place, thing)), True, (place, thing))
            for thing in wrong:
                self.assertIs(is_note(with_part(whole, place, thing)), False, (place, thing))

    def test_the_name(self):
        self.check_part(0, ["a", "Z9-_", "abcdefghij", "safe-", "own-"], WRONG_NOTE_NAMES)

    def test_the_worth(self):
        self.check_part(1, ["", "!", "~", "a" * 12], WRONG_WORTHS)

    def test_the_house(self):
        self.check_part(HOUSE, ["a", "a.b", "a.b.c.d.e"], WRONG_NAMES)

    def test_exact_and_safe(self):
        self.check_part(EXACT, [True, False], WRONG_TRUTHS)
        self.check_part(SAFE, [True, False], WRONG_TRUTHS)

    def test_the_path(self):
        self.check_part(PATH, ["/", "/a", LONGEST_PATH], WRONG_PATHS)

    def test_when_it_ends(self):
        self.check_part(ENDS, [None, 0, 2, 70, 9999], [thing for thing in WRONG_MOMENTS if thing is not None])

    def test_the_reach(self):
        self.check_part(REACH, ["any", "near"], WRONG_REACHES)

    def test_made_and_used_are_moments(self):
        self.check_part(MADE, [0, 1, 9], WRONG_MOMENTS)
        self.check_part(USED, [9, 9999], WRONG_MOMENTS)
        self.assertIs(is_note(NOTE[:8] + (False, True)), False)
        self.assertIs(is_note(NOTE[:8] + (0, True)), False)
        self.assertIs(is_note(NOTE[:8] + (False, 1)), False)

    def test_made_is_no_later_than_used(self):
        for first, last, told in ((0, 0, True), (5, 5, True), (9999, 9999, True), (4, 5, True), (0, 9999, True),
                                  (5, 4, False), (1, 0, False), (9999, 9998, False), (9999, 0, False)):
            self.assertIs(is_note(NOTE[:8] + (first, last)), told, (first, last))

    def test_it_may_end_ahead_of_when_it_was_made(self):
        self.assertIs(is_note(with_part(NOTE, ENDS, 0)), True)

    def test_ten_parts(self):
        for thing in (NOTE[:9], NOTE + (9,), NOTE + (None,), NOTE[1:], NOTE + NOTE, (NOTE,), ()):
            self.assertIs(is_note(thing), False, thing)

    def test_a_tuple(self):
        for thing in (list(NOTE), [], "n=5", "", None, True, False, 10):
            self.assertIs(is_note(thing), False, thing)


class Made(unittest.TestCase):
    def check(self, told, asked, what, now, table=()):
        self.assertEqual(repr(made(table, asked, what, now)), repr(told), (table, asked, what, now))
        self.assertIs(is_note(told), True, told)

    def test_nothing_given_but_name_and_worth(self):
        self.check(("n", "5", "a.b", True, "/x", None, False, "any", 7, 7), ASK, GIVEN, 7)

    def test_all_given(self):
        self.check(("own-x", "", "b", True, "/", 12, True, "near", 9, 9), ask(house="b", origin="b"),
                   ("own-x", "", "b", "/", 70, 3, True, "near"), 9)
        self.check(("n", "5", "a.b", False, "/q", 12, True, "near", 9, 9), ask(house="x.a.b", origin="y.a.b"),
                   ("n", "5", "a.b", "/q", 70, 3, True, "near"), 9)

    def test_the_house_and_whether_it_is_exact(self):
        for table, asked, house, told in (((), "a.b", None, ("a.b", True)), ((), "a.b", "a.b", ("a.b", False)),
                                          ((), "x.a.b", "a.b", ("a.b", False)), ((), "b", "b", ("b", True)),
                                          ((), "x.a.b", None, ("x.a.b", True)), ((), "b", None, ("b", True)),
                                          (("a.b",), "a.b", "a.b", ("a.b", True)), (("*.b",), "a.b", "a.b", ("a.b", True)),
                                          (("a.b",), "a.b", None, ("a.b", True)),
                                          (("!a.b", "*.b"), "a.b", "a.b", ("a.b", False)),
                                          (("a.b",), "y.x.a.b", "x.a.b", ("x.a.b", False))):
            self.check(("n", "5") + told + ("/x", None, False, "any", 7, 7), ask(house=asked), given(house=house), 7, table)

    def test_the_path(self):
        for asked, path, told in (("/x/y", None, "/x"), ("/x/y/", None, "/x/y"), ("/x", None, "/"), ("/", None, "/"),
                                  ("//", None, "/"), (LONGEST_PATH, None, "/"), ("/x/y", "/", "/"), ("/x/y", "/x/y", "/x/y"),
                                  ("/x/y", "/q/", "/q/"), ("/", LONGEST_PATH, LONGEST_PATH)):
            self.check(("n", "5", "a.b", True, told, None, False, "any", 7, 7), ask(path=asked), given(path=path), 7)

    def test_when_it_ends(self):
        for until, lasts, now, told in ((None, None, 7, None), (70, None, 7, 70), (0, None, 7, 0), (7, None, 7, 7),
                                        (9999, None, 7, 9999), (None, 3, 7, 10), (None, 0, 7, 7), (70, 3, 7, 10),
                                        (70, 0, 7, 7), (0, 3, 7, 10), (8, 9999, 0, 9999), (None, 9999, 0, 9999),
                                        (None, 9999, 1, 9999), (None, 1, 9998, 9999), (None, 1, 9999, 9999),
                                        (None, 9999, 9999, 9999), (None, 2, 9998, 9999), (5, 9000, 1000, 9999),
                                        (None, 8998, 1000, 9998), (None, 0, 0, 0), (None, None, 0, None)):
            self.check(("n", "5", "a.b", True, "/x", told, False, "any", now, now), ASK, given(until=until, lasts=lasts), now)

    def test_safe_and_reach(self):
        for safe, reach in itertools.product((True, False), ("any", "near")):
            self.check(("n", "5", "a.b", True, "/x", None, safe, reach, 7, 7), ASK, given(safe=safe, reach=reach), 7)

    def test_moments_at_their_edges(self):
        for now in (0, 1, 9998, 9999):
            self.check(("n", "5", "a.b", True, "/x", None, False, "any", now, now), ASK, GIVEN, now)

    def test_refusals(self):
        for table in WRONG_TABLES:
            self.assertIs(refusal(made, table, ASK, GIVEN, 7), NoTable, repr(table))
        for wrong in WRONG_ASKS:
            self.assertIs(refusal(made, (), wrong, GIVEN, 7), NoAsk, repr(wrong))
        for wrong in WRONG_GIVEN:
            self.assertIs(refusal(made, (), ASK, wrong, 7), NoNote, repr(wrong))
        for wrong in WRONG_MOMENTS:
            self.assertIs(refusal(made, (), ASK, GIVEN, wrong), NoNumber, repr(wrong))

    def test_each_word_refuses(self):
        for word in WORDS:
            asked, what = so_far_as((word,))
            self.assertEqual(why_refused((), asked, what), word)
            self.assertIs(refusal(made, (), asked, what, 7), NoNote, word)

    def test_the_order_of_refusals(self):
        refused = given(house="c.d")
        tables = (((), None), (["a"], NoTable))
        asks = ((ASK, None), ([], NoAsk))
        what = ((GIVEN, None), (refused, None), (GIVEN[:7], NoNote), (None, NoNote))
        moments = ((7, None), (-1, NoNumber), (True, NoNumber))
        for parts in itertools.product(tables, asks, what, moments):
            due = [part[1] for part in parts if part[1] is not None] + [NoNote] * (parts[2][0] == refused) + [None]
            self.assertIs(refusal(made, *[part[0] for part in parts]), due[0], parts)


class KeysAndEnds(unittest.TestCase):
    def test_key(self):
        self.assertEqual(key(NOTE), ("n", "a.b", "/x"))
        self.assertIsInstance(key(NOTE), tuple)
        self.assertEqual(key(("q", "", "h", False, "/", None, False, "any", 0, 0)), ("q", "h", "/"))

    def test_only_name_house_and_path_make_the_key(self):
        other = ("m", "6", "c.d", False, "/y", None, False, "any", 4, 8)
        for place in range(10):
            changed = with_part(NOTE, place, other[place])
            self.assertIs(key(changed) == key(NOTE), place not in (0, HOUSE, PATH), place)

    def test_has_ended(self):
        for ends, now, told in ((70, 69, False), (70, 70, True), (70, 71, True), (70, 0, False), (70, 9999, True),
                                (0, 0, True), (0, 1, True), (1, 0, False), (9999, 9998, False), (9999, 9999, True),
                                (None, 0, False), (None, 70, False), (None, 9999, False)):
            self.assertIs(has_ended(note(ends=ends), now), told, (ends, now))


class Goes(unittest.TestCase):
    def check(self, told, what, asked, now=5, table=()):
        self.assertIs(goes(table, what, asked, now), told, (table, what, asked, now))

    def test_each_condition_broken_by_itself(self):
        what = note(ends=70, safe=True, reach="near")
        self.check(True, what, ask(origin="x.a.b"), 69)
        self.check(False, what, ask(origin="x.a.b"), 70)
        self.check(False, what, ask(house="c.a"), 69)
        self.check(False, what, ask(origin="x.a.b", path="/q"), 69)
        self.check(False, what, ask(origin="x.a.b", safe=False), 69)
        self.check(False, what, ask(origin="x.y"), 69)

    def test_when_it_has_ended(self):
        for ends, now, told in ((70, 69, True), (70, 70, False), (70, 71, False), (0, 0, False), (None, 9999, True)):
            self.check(told, note(ends=ends), ASK, now)
            self.check(told, note(ends=ends, exact=True), ASK, now)

    def test_the_house_of_one_that_is_exact(self):
        self.check(True, note(exact=True), ask())
        for house in ("x.a.b", "b", "c.b", "xa.b"):
            self.check(False, note(exact=True), ask(house=house))

    def test_the_house_of_one_that_is_not(self):
        for house in ("a.b", "x.a.b", "y.x.a.b"):
            self.check(True, note(exact=False), ask(house=house))
        for house in ("b", "c.b", "xa.b", "a", "a.b.c"):
            self.check(False, note(exact=False), ask(house=house))

    def test_the_path(self):
        for path, top, told in (("/x", "/x", True), ("/x/", "/x", True), ("/x/y", "/x", True), ("/x/y", "/x/", True),
                                ("/x/y", "/", True), ("/", "/", True), ("/xy", "/x", False), ("/x", "/x/", False),
                                ("/", "/x", False), ("/q/x", "/x", False), ("/x", "/x/y", False)):
            self.check(told, note(path=top), ask(path=path))

    def test_safe_and_unsafe(self):
        for one, other in itertools.product((True, False), (True, False)):
            self.check(other or not one, note(safe=one), ask(safe=other))

    def test_near_and_far(self):
        for origin, told in ((None, True), ("a.b", True), ("x.a.b", True), ("c.b", False), ("b", False), ("x.y", False)):
            self.check(told, note(reach="near"), ask(origin=origin))
            self.check(True, note(reach="any"), ask(origin=origin))
        self.check(True, note(reach="near"), ask(house="x.a.b", origin="y.a.b"))
        self.check(False, note(reach="near"), ask(house="x.a.b", origin="y.a.b"), table=("a.b",))
        self.check(True, note(reach="near", exact=True), ask(origin="a.b"), table=("a.b",))

    def test_when_it_was_made_and_used_is_not_looked_at(self):
        for first, last, now in ((3, 9, 0), (3, 9, 5), (9999, 9999, 0), (0, 0, 9999)):
            self.check(True, note()[:8] + (first, last), ASK, now)

    def test_nothing_is_refused_somewhat_beyond_the_bounds(self):
        long_path = LONGEST_PATH + "a"
        many = ("a", "b", "c", "d", "e", "f", "g", "h", "i")
        self.check(True, note(), ASK, 10000)
        self.check(False, note(ends=10001), ASK, 10001)
        self.check(True, note(path=long_path), ask(path=long_path + "/y"))
        self.check(True, note(house="b.c.d.e.f"), ask(house="a.b.c.d.e.f"))
        self.check(True, note(reach="near"), ask(house="x.a.b", origin="a.b"), table=many)
        self.check(True, note(reach="near", house="a.b.c.d.e.f"), ask(house="a.b.c.d.e.f", origin="x.e.f"))
        self.assertIs(has_ended(note(ends=10001), 10000), False)
        self.assertEqual(key(note(path=long_path)), ("n", "a.b", long_path))


if __name__ == "__main__":
    unittest.main()
