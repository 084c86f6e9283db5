import itertools
import unittest

from notejar.errors import NoAsk, NoJar, NoName, NoNote, NoNumber, NoTable
from notejar.jars import forgotten, is_jar, put, sent, sent_text, swept, taken, used, verdict
from things import ASKS, GIVEN_TEXTS, JARS, MOMENTS, NAMES, TABLES, WRONG_ASKS, WRONG_GIVEN_TEXTS, WRONG_JARS
from things import WRONG_MOMENTS, WRONG_NAMES, WRONG_TABLES, a_note, an_ask, numbered, orders, refusal, with_part

ASK = an_ask()
UNSAFE = an_ask(safe=False)


class IsJar(unittest.TestCase):
    def test_how_many(self):
        for count, told in ((0, True), (1, True), (2, True), (19, True), (20, True), (21, False), (40, False)):
            self.assertIs(is_jar(numbered(count)), told, count)

    def test_by_made(self):
        for moments, told in (((3, 3), True), ((3, 4), True), ((4, 3), False), ((0, 9), True), ((3, 3, 3), True),
                              ((3, 3, 2), False), ((3, 2, 3), False), ((2, 3, 3), True), ((0, 9, 8), False)):
            jar = tuple([a_note(name="n" + str(place), made=moment) for place, moment in enumerate(moments)])
            self.assertIs(is_jar(jar), told, moments)

    def test_only_made_makes_the_order(self):
        for one, other in ((a_note(name="z"), a_note(name="a")), (a_note(house="z"), a_note(house="a")),
                           (a_note(name="m", used=99), a_note(used=3)), (a_note(name="m", ends=9), a_note(ends=1)),
                           (a_note(path="/x/y"), a_note(path="/"))):
            self.assertIs(is_jar((one, other)), True)
            self.assertIs(is_jar((other, one)), True)

    def test_no_key_twice(self):
        first = a_note()
        for place, part, told in ((0, "m", True), (2, "b", True), (4, "/x", True), (1, "6", False), (3, True, False),
                                  (5, 70, False), (6, True, False), (7, "near", False), (8, 4, False), (9, 10, False)):
            self.assertIs(is_jar((first, with_part(first, place, part))), told, place)
        self.assertIs(is_jar((first, first)), False)

    def test_no_key_twice_where_they_stand_apart(self):
        between = numbered(5)
        self.assertIs(is_jar(between + (a_note(made=5), a_note(name="m", made=5), a_note(made=6))), False)
        self.assertIs(is_jar(between + (a_note(made=5), a_note(name="m", made=5), a_note(name="k", made=6))), True)
        self.assertIs(is_jar(between + (with_part(between[0], 8, 0), )), False)

    def test_names_great_and_small_are_unlike(self):
        self.assertIs(is_jar((a_note(name="n"), a_note(name="N"))), True)

    def test_what_is_no_note(self):
        for wrong in (None, (), 5, "n=5", a_note()[:9], a_note() + (9,), list(a_note()), a_note(made=10), a_note(used=True),
                      a_note(house=None), a_note(ends=-1), a_note(worth=";")):
            for jar in ((wrong,), (wrong, a_note()), (a_note(), wrong), (a_note(), wrong, a_note(name="m"))):
                self.assertIs(is_jar(jar), False, wrong)

    def test_other_things(self):
        for wrong in WRONG_JARS:
            self.assertIs(is_jar(wrong), False, repr(wrong))
        self.assertIs(is_jar(list(numbered(2))), False)


class Swept(unittest.TestCase):
    def test_ends(self):
        jar = (a_note("k", ends=4), a_note("l", ends=5), a_note("m", ends=6), a_note("n"), a_note("o", ends=0))
        for now, left in ((0, "klmn"), (3, "klmn"), (4, "lmn"), (5, "mn"), (6, "n"), (7, "n"), (9999, "n")):
            told = swept(jar, now)
            self.assertIsInstance(told, tuple)
            self.assertEqual(told, tuple([note for note in jar if note[0] in left]), now)

    def test_none_and_all(self):
        self.assertEqual(swept((), 5), ())
        self.assertEqual(swept((a_note(ends=5),), 5), ())
        self.assertEqual(swept(numbered(20), 9999), numbered(20))

    def test_made_and_used_are_not_looked_at(self):
        self.assertEqual(swept((a_note(made=8, used=9),), 0), (a_note(made=8, used=9),))

    def test_refusals(self):
        for wrong in WRONG_JARS:
            self.assertIs(refusal(swept, wrong, 5), NoJar, repr(wrong))
        for wrong in WRONG_MOMENTS:
            self.assertIs(refusal(swept, (), wrong), NoNumber, repr(wrong))
            self.assertIs(refusal(swept, (a_note(),), wrong), NoNumber, repr(wrong))

    def test_the_order_of_refusals(self):
        for handed, due in orders(JARS, MOMENTS):
            self.assertIs(refusal(swept, *handed), due, handed)


class Forgotten(unittest.TestCase):
    HOUSES = ("a.b", "x.a.b", "y.x.a.b", "xa.b", "b", "c.b", "a", "a.b.c")

    def jar(self):
        return tuple([a_note(house=house) for house in self.HOUSES])

    def test_houses_within(self):
        for house, gone in (("a.b", ("a.b", "x.a.b", "y.x.a.b")), ("x.a.b", ("x.a.b", "y.x.a.b")),
                            ("b", ("a.b", "x.a.b", "y.x.a.b", "xa.b", "b", "c.b")), ("a", ("a",)), ("c", ("a.b.c",)),
                            ("y", ()), ("z.y.x.a.b", ()), ("bb", ()), ("a.b.c", ("a.b.c",))):
            told = forgotten(self.jar(), house)
            self.assertIsInstance(told, tuple)
            self.assertEqual([note[2] for note in told], [one for one in self.HOUSES if one not in gone], house)

    def test_what_is_left_stays_as_it_is(self):
        jar = (a_note("k", house="b"), a_note("l", exact=True, ends=0), a_note("m", house="b", safe=True, reach="near"))
        self.assertEqual(forgotten(jar, "a.b"), (jar[0], jar[2]))
        self.assertEqual(forgotten(jar, "c"), jar)
        self.assertEqual(forgotten(jar, "b"), ())

    def test_none(self):
        self.assertEqual(forgotten((), "a"), ())

    def test_refusals(self):
        for wrong in WRONG_JARS:
            self.assertIs(refusal(forgotten, wrong, "a"), NoJar, repr(wrong))
        for wrong in WRONG_NAMES:
            self.assertIs(refusal(forgotten, (), wrong), NoName, repr(wrong))

    def test_the_order_of_refusals(self):
        for handed, due in orders(JARS, NAMES):
            self.assertIs(refusal(forgotten, *handed), due, handed)


class Put(unittest.TestCase):
    def test_a_new_key_comes_last(self):
        jar = (a_note("z"), a_note("y"))
        for new in (a_note("x", made=9), a_note("z", house="b", made=9), a_note("z", path="/x", made=9), a_note("Z", made=3)):
            self.assertEqual(put(jar, new), jar + (new,))
        self.assertEqual(put((), a_note()), (a_note(),))

    def test_a_key_that_is_there(self):
        jar = numbered(3)
        for place in range(3):
            new = ("n" + str(place), "w", "a.b", True, "/", 70, True, "near", 12, 15)
            told = put(jar, new)
            self.assertEqual(told[place], with_part(new, 8, place))
            self.assertEqual(told[:place] + told[place + 1:], jar[:place] + jar[place + 1:])
            self.assertIs(is_jar(told), True)

    def test_what_ended_stays(self):
        jar = (a_note("m", ends=0), a_note(ends=1))
        self.assertEqual(put(jar, a_note(made=9)), (jar[0], a_note(made=3)))
        self.assertEqual(put(jar, a_note("o", made=9)), jar + (a_note("o", made=9),))

    def test_no_limit_is_looked_at(self):
        self.assertEqual(put(numbered(20), a_note(made=20, used=20)), numbered(20) + (a_note(made=20, used=20),))
        self.assertEqual(len(put(numbered(20), a_note("n7", made=20, used=20))), 20)
        self.assertEqual(put(numbered(21), a_note(made=21, used=21))[21], a_note(made=21, used=21))

    def test_what_is_handed_in_stays(self):
        jar = numbered(2)
        put(jar, a_note("n0", made=5))
        self.assertEqual(jar, numbered(2))


def so_far_as(due):
    """An ask, a jar and a text, for which just the words that are due are so."""
    houses = {(False, False): "x.a.b", (False, True): "b", (True, False): "c.d", (True, True): "c"}
    house = houses["foreign" in due, "open" in due]
    ask = an_ask(safe="unsafe" not in due and "shadowed" not in due, house="x.a.b",
                 origin="q.r" if "far" in due else "y.a.b")
    name = "own-x" if "marked" in due else "n"
    jar = (a_note(name, house=house, safe="shadowed" in due),)
    text = name + "=5; for " + house + "; under /x; near; lasts " + ("0" if "gone" in due else "3")
    return (), jar, ask, text + ("; safe" if "unsafe" in due else ""), 9


WORDS = ("foreign", "open", "unsafe", "marked", "far", "shadowed", "gone")


class Verdict(unittest.TestCase):
    def check(self, word, jar, ask, text, now=9, table=()):
        self.assertEqual(verdict(table, jar, ask, text, now), word, (table, jar, ask, text, now))

    def test_each_word_by_itself_and_ahead_of_all_behind_it(self):
        for count in range(len(WORDS) + 1):
            for due in itertools.combinations(WORDS, count):
                self.assertEqual(verdict(*so_far_as(due)), due[0] if due else "kept", due)

    def test_words_of_why_refused(self):
        self.check("foreign", (), ASK, "n=5; for c.d")
        self.check("open", (), ASK, "n=5; for b")
        self.check("open", (), an_ask(house="x.a.b"), "n=5; for a.b", table=("a.b",))
        self.check("unsafe", (), UNSAFE, "n=5; safe")
        self.check("marked", (), ASK, "safe-n=5")
        self.check("marked", (), ASK, "own-n=5; safe")
        self.check("kept", (), ASK, "own-n=5; safe; under /")
        self.check("far", (), an_ask(origin="c.b"), "n=5; near")

    def test_what_the_text_tells(self):
        self.check("kept", (), ASK, "  n=5 ;for b; for a.b ; what ")
        self.check("open", (), ASK, "n=5; for a.b; for b")
        self.check("kept", (), ASK, "n=")

    def test_gone(self):
        for text, word in (("n=5; until 8", "gone"), ("n=5; until 9", "gone"), ("n=5; until 10", "kept"), ("n=5", "kept"),
                           ("n=5; lasts 0", "gone"), ("n=5; lasts 1", "kept"), ("n=5; until 0; lasts 1", "kept"),
                           ("n=5; until 10; lasts 0", "gone"), ("n=5; until 0", "gone"), ("n=5; until 9999", "kept")):
            self.check(word, (), ASK, text)
            self.check(word, (a_note(path="/x"),), ASK, text)
        self.check("gone", (), ASK, "n=5; lasts 9999", now=9999)
        self.check("kept", (), ASK, "n=5; lasts 9999", now=9998)

    def test_when_the_jars_notes_were_used_is_not_looked_at(self):
        self.check("kept", (a_note(made=9998, used=9999),), ASK, "n=5", now=0)
        self.check("shadowed", (a_note(made=9998, used=9999, safe=True),), UNSAFE, "n=5", now=0)

    def test_a_full_jar_is_not_looked_at(self):
        self.check("kept", numbered(20), ASK, "n=5")

    def test_refusals(self):
        for wrong in WRONG_TABLES:
            self.assertIs(refusal(verdict, wrong, (), ASK, "n=5", 9), NoTable, repr(wrong))
        for wrong in WRONG_JARS:
            self.assertIs(refusal(verdict, (), wrong, ASK, "n=5", 9), NoJar, repr(wrong))
        for wrong in WRONG_ASKS:
            self.assertIs(refusal(verdict, (), (), wrong, "n=5", 9), NoAsk, repr(wrong))
        for wrong in WRONG_GIVEN_TEXTS:
            self.assertIs(refusal(verdict, (), (), ASK, wrong, 9), NoNote, repr(wrong))
        for wrong in WRONG_MOMENTS:
            self.assertIs(refusal(verdict, (), (), ASK, "n=5", wrong), NoNumber, repr(wrong))
            self.assertIs(refusal(verdict, (), (), ASK, "n=5; for c.d", wrong), NoNumber, repr(wrong))

    def test_the_order_of_refusals(self):
        for handed, due in orders(TABLES, JARS, ASKS, GIVEN_TEXTS, MOMENTS):
            self.assertIs(refusal(verdict, *handed), due, handed)


class Shadowed(unittest.TestCase):
    def check(self, word, old, ask=UNSAFE, text="n=5", now=9):
        self.assertEqual(verdict((), (old,), ask, text, now), word, (old, ask, text, now))

    def test_all_conditions(self):
        self.check("shadowed", a_note(safe=True, path="/x"))
        self.check("shadowed", a_note(safe=True, path="/x", exact=True, reach="near", ends=10))

    def test_the_ask_is_safe(self):
        self.check("kept", a_note(safe=True), ask=ASK)
        self.check("kept", a_note(safe=True), ask=ASK, text="n=5; safe")

    def test_no_safe_note(self):
        self.check("kept", a_note(safe=False))
        self.assertEqual(verdict((), (), UNSAFE, "n=5", 9), "kept")

    def test_the_safe_note_has_ended(self):
        for ends, word in ((8, "kept"), (9, "kept"), (10, "shadowed"), (0, "kept"), (9999, "shadowed"), (None, "shadowed")):
            self.check(word, a_note(safe=True, ends=ends))

    def test_another_name(self):
        for name in ("m", "N", "nn", "n5"):
            self.check("kept", a_note(name, safe=True))

    def test_houses(self):
        for old, asked, text, word in (("a.b", "a.b", "n=5", "shadowed"), ("b", "a.b", "n=5", "shadowed"),
                                       ("a.b", "x.a.b", "n=5", "shadowed"), ("x.a.b", "a.b", "n=5", "shadowed"),
                                       ("y.a.b", "x.a.b", "n=5; for a.b", "shadowed"), ("y.a.b", "x.a.b", "n=5", "kept"),
                                       ("c.b", "a.b", "n=5", "kept"), ("xa.b", "a.b", "n=5", "kept"),
                                       ("a.b", "xa.b", "n=5", "kept"), ("b", "xb", "n=5", "kept"), ("c.d", "a.b", "n=5", "kept")):
            self.check(word, a_note(house=old, safe=True), an_ask(safe=False, house=asked), text)
            # Whether the one is for its house alone makes no odds.
            self.check(word, a_note(house=old, safe=True, exact=True), an_ask(safe=False, house=asked), text)

    def test_paths(self):
        for old, new, word in (("/", "/", "shadowed"), ("/", "/x", "shadowed"), ("/x", "/x", "shadowed"),
                               ("/x", "/x/y", "shadowed"), ("/x/", "/x/y", "shadowed"), ("/x", "/", "kept"),
                               ("/x/y", "/x", "kept"), ("/x", "/xy", "kept"), ("/x/", "/x", "kept"), ("/q", "/x", "kept")):
            self.check(word, a_note(path=old, safe=True), text="n=5; under " + new)

    def test_the_path_of_the_new_note_not_of_the_ask(self):
        self.check("kept", a_note(path="/x/y", safe=True), an_ask(safe=False, path="/x/y"))
        self.check("shadowed", a_note(path="/x", safe=True), an_ask(safe=False, path="/x/y"))
        self.check("shadowed", a_note(path="/x", safe=True), an_ask(safe=False, path="/"), "n=5; under /x")

    def test_some_note_of_several(self):
        safe = a_note(safe=True, path="/x")
        for jar in ((a_note(), safe), (safe, a_note()), (a_note("m", safe=True), safe, a_note("o"))):
            self.assertEqual(verdict((), jar, UNSAFE, "n=5", 9), "shadowed", jar)
        split = (a_note(safe=True, house="c.d"), a_note(path="/x"), a_note("m", safe=True))
        self.assertEqual(verdict((), split, UNSAFE, "n=5", 9), "kept")

    def test_ahead_of_gone(self):
        self.check("shadowed", a_note(safe=True), text="n=5; lasts 0")
        self.check("gone", a_note(safe=True, ends=9), text="n=5; lasts 0")


class Taken(unittest.TestCase):
    JAR = (a_note("k"), a_note("m", ends=9), a_note(path="/x"), a_note("o", ends=10))
    LEFT = (a_note("k"), a_note(path="/x"), a_note("o", ends=10))

    def check(self, left, text, ask=ASK, now=9, jar=JAR, table=()):
        told = taken(table, jar, ask, text, now)
        self.assertEqual(told, left, (table, jar, ask, text, now))
        self.assertIs(is_jar(told), True)

    def test_kept_with_a_new_key(self):
        self.check(self.LEFT + (("p", "6", "a.b", True, "/x", 12, False, "any", 9, 9),), "p=6; lasts 3")
        self.check(self.LEFT + (("n", "6", "a.b", False, "/", None, True, "near", 9, 9),), "n=6; for a.b; under /; safe; near")
        self.check((("n", "", "a.b", True, "/x", None, False, "any", 9, 9),), "n=", jar=())

    def test_kept_with_a_key_that_is_there(self):
        new = ("n", "6", "a.b", True, "/x", 70, True, "any", 3, 9)
        self.check((self.LEFT[0], new, self.LEFT[2]), "n=6; until 70; safe")
        self.check(self.LEFT, "n=5; for a.b; under /x")

    def test_kept_with_a_key_of_one_that_ended(self):
        new = ("m", "5", "a.b", True, "/", None, False, "any", 9, 9)
        self.check(self.LEFT + (new,), "m=5; under /")

    def test_gone_with_a_note_of_its_key(self):
        self.check((self.LEFT[0], self.LEFT[2]), "n=6; lasts 0")
        self.check((self.LEFT[0], self.LEFT[2]), "n=6; for a.b; until 9; safe")
        self.check((), "n=6; until 8", jar=(a_note(path="/x"),))

    def test_gone_without_a_note_of_its_key(self):
        for text in ("q=6; lasts 0", "n=6; lasts 0; under /", "n=6; lasts 0; under /x/", "N=6; lasts 0", "m=6; lasts 0"):
            self.check(self.LEFT, text)
        self.check(self.LEFT, "n=6; lasts 0", ask=an_ask(house="x.a.b"))
        self.check((), "n=6; lasts 0", jar=())

    def test_swept_also_where_the_word_is_a_refusal(self):
        for text, ask in (("n=6; for c.d", ASK), ("n=6; for b", ASK), ("n=6; safe", UNSAFE), ("safe-n=6", ASK),
                          ("n=6; near", an_ask(origin="c.b"))):
            self.assertNotIn(verdict((), self.JAR, ask, text, 9), ("shadowed", "gone", "kept"))
            self.check(self.LEFT, text, ask)

    def test_swept_where_it_is_shadowed(self):
        safe = a_note("s", safe=True)
        for text in ("s=6", "s=6; lasts 0", "s=6; under /"):
            self.assertEqual(verdict((), (safe,) + self.JAR, UNSAFE, text, 9), "shadowed")
            self.check((safe,) + self.LEFT, text, UNSAFE, jar=(safe,) + self.JAR)

    def test_the_word_is_that_of_verdict(self):
        for count in range(len(WORDS) + 1):
            for due in itertools.combinations(WORDS, count):
                table, jar, ask, text, now = so_far_as(due)
                told = taken(table, jar, ask, text, now)
                self.assertEqual(told[:1], jar, due)
                self.assertEqual(len(told), 1 if due else 2, due)

    def test_used_later_than_now(self):
        for last, due in ((8, None), (9, None), (10, NoNumber), (9999, NoNumber)):
            for text in ("n=5", "n=5; lasts 0", "n=5; for c.d", "m=5"):
                self.assertIs(refusal(taken, (), (a_note(used=last),), ASK, text, 9), due, (last, text))
                self.assertIs(refusal(taken, (), (a_note("k"), a_note(used=last), a_note("m")), ASK, text, 9), due)

    def test_used_later_than_now_also_of_one_that_ended(self):
        self.assertIs(refusal(taken, (), (a_note(ends=5, used=10),), ASK, "n=5", 9), NoNumber)

    def test_a_jar_of_twenty(self):
        jar = numbered(20)
        self.assertIs(refusal(taken, (), jar, ASK, "n=5", 30), NoJar)
        self.assertIs(refusal(taken, (), jar, ASK, "n7=5; under /x", 30), NoJar)
        self.check(jar, "n=5; for c.d", jar=jar, now=30)
        self.check(jar, "n=5; lasts 0", jar=jar, now=30)
        self.check(jar[:7] + jar[8:], "n7=5; for a.b; under /; lasts 0", jar=jar, now=30)
        new = a_note("n7", made=7, used=30)
        self.check(jar[:7] + (new,) + jar[8:], "n7=5; for a.b; under /", jar=jar, now=30)

    def test_a_jar_of_twenty_with_ended_ones(self):
        jar = (a_note("n0", ends=30, made=0, used=0),) + numbered(20)[1:]
        new = a_note("p", made=30, used=30)
        self.check(jar[1:] + (new,), "p=5; for a.b; under /", jar=jar, now=30)
        self.assertIs(refusal(taken, (), jar, ASK, "p=5", 29), NoJar)
        self.check(numbered(19) + (a_note(made=30, used=30),), "n=5; for a.b; under /", jar=numbered(19), now=30)

    def test_refusals(self):
        for wrong in WRONG_TABLES:
            self.assertIs(refusal(taken, wrong, (), ASK, "n=5", 9), NoTable, repr(wrong))
        for wrong in WRONG_JARS:
            self.assertIs(refusal(taken, (), wrong, ASK, "n=5", 9), NoJar, repr(wrong))
        for wrong in WRONG_ASKS:
            self.assertIs(refusal(taken, (), (), wrong, "n=5", 9), NoAsk, repr(wrong))
        for wrong in WRONG_GIVEN_TEXTS:
            self.assertIs(refusal(taken, (), (), ASK, wrong, 9), NoNote, repr(wrong))
        for wrong in WRONG_MOMENTS:
            self.assertIs(refusal(taken, (), (), ASK, "n=5", wrong), NoNumber, repr(wrong))

    def test_the_order_of_refusals(self):
        for handed, due in orders(TABLES, JARS, ASKS, GIVEN_TEXTS, MOMENTS):
            self.assertIs(refusal(taken, *handed), due, handed)

    def test_the_refusals_that_come_last(self):
        late = (a_note(made=30, used=40),)
        jars = ((late, NoNumber), (numbered(19) + late, NoNumber), (numbered(20), NoJar), (numbered(19), None))
        for (jar, last), (handed, due) in itertools.product(jars, orders(TABLES, ASKS, GIVEN_TEXTS, MOMENTS)):
            told = refusal(taken, handed[0], jar, handed[1], "p" + handed[2] if handed[2] == "n=5" else handed[2],
                           30 if handed[3] == 9 else handed[3])
            self.assertIs(told, due or last, (len(jar), handed))


class Sent(unittest.TestCase):
    JAR = (a_note("k", path="/"), a_note("l", path="/x/y"), a_note("m", path="/x"), a_note("n", path="/x/"),
           a_note("o", path="/x/y"), a_note("p", path="/q/y"), a_note("q", path="/"), a_note("r", path="/x"))

    def test_longer_paths_first_then_as_in_the_jar(self):
        told = sent((), self.JAR, ASK, 9)
        self.assertIsInstance(told, list)
        self.assertEqual([note[0] for note in told], ["l", "o", "n", "m", "r", "k", "q"])
        self.assertTrue(all(note in self.JAR for note in told))

    def test_those_made_or_used_earlier_are_not_first(self):
        jar = (a_note("k", made=1, used=9), a_note("l", made=2, used=3), a_note("a", made=3, used=5))
        self.assertEqual(sent((), jar, ASK, 9), list(jar))

    def test_only_those_that_go_along(self):
        jar = (a_note("k", ends=9), a_note("l", house="c.d"), a_note("m", path="/q"), a_note("o", safe=True),
               a_note("p", reach="near"), a_note("q", house="b", exact=True), a_note("r", house="b"))
        self.assertEqual(sent((), jar, an_ask(safe=False, origin="c.b"), 9), [jar[6]])
        self.assertEqual(sent((), jar, ASK, 8), [jar[0], jar[3], jar[4], jar[6]])

    def test_none(self):
        self.assertEqual(sent((), (), ASK, 9), [])
        self.assertEqual(sent((), (a_note(ends=9),), ASK, 9), [])
        self.assertEqual(sent_text((), (), ASK, 9), "")
        self.assertEqual(sent_text((), (a_note(ends=9),), ASK, 9), "")
        self.assertEqual(sent_text((), (a_note(),), an_ask(house="c"), 9), "")

    def test_the_table(self):
        jar = (a_note(reach="near"),)
        ask = an_ask(house="x.a.b", origin="y.a.b")
        self.assertEqual(sent_text((), jar, ask, 9), "n=5")
        self.assertEqual(sent_text(("a.b",), jar, ask, 9), "")

    def test_sent_text(self):
        self.assertEqual(sent_text((), (a_note(),), ASK, 9), "n=5")
        self.assertEqual(sent_text((), (a_note(worth=""),), ASK, 9), "n=")
        self.assertEqual(sent_text((), (a_note(), a_note("M-_0", worth="!~")), ASK, 9), "n=5; M-_0=!~")
        self.assertEqual(sent_text((), self.JAR, ASK, 9), "l=5; o=5; n=5; m=5; r=5; k=5; q=5")

    def test_one_name_several_times(self):
        jar = (a_note(worth="1"), a_note(worth="2", path="/x"), a_note(worth="3", house="b"))
        self.assertEqual(sent_text((), jar, ASK, 9), "n=2; n=1; n=3")


class Used(unittest.TestCase):
    def check(self, jar, moments, ask=ASK, now=9, table=()):
        told = used(table, jar, ask, now)
        self.assertIsInstance(told, tuple)
        self.assertEqual(told, tuple([with_part(note, 9, moment) for note, moment in zip(jar, moments, strict=True)]))
        self.assertIs(is_jar(told), True)

    def test_used_now_if_not_used_later(self):
        for last, now, then in ((3, 9, 9), (8, 9, 9), (9, 9, 9), (10, 9, 10), (9999, 9, 9999), (3, 9999, 9999), (3, 3, 3),
                                (5, 0, 5), (5, 3, 5)):
            self.check((a_note(used=last),), (then,), now=now)

    def test_those_that_do_not_go_along_stay(self):
        jar = (a_note("k", ends=20), a_note("l", house="c.d"), a_note("m", path="/q"), a_note("o", safe=True),
               a_note("p", reach="near"), a_note("q", house="b", exact=True), a_note("r", house="b", used=11))
        self.check(jar, (12, 9, 9, 9, 9, 9, 12), an_ask(safe=False, origin="c.b"), 12)
        self.check(jar, (12, 9, 9, 12, 12, 9, 12), ASK, 12)
        self.check(jar, (9, 9, 9, 20, 20, 9, 20), ASK, 20)

    def test_they_stand_as_they_stood(self):
        self.check((a_note("k"), a_note("l", path="/x/y"), a_note("m", path="/x")), (12, 12, 12), now=12)

    def test_ended_ones_stay(self):
        self.check((a_note("k", ends=9), a_note("l", ends=0), a_note("m")), (9, 9, 12), now=12)

    def test_none(self):
        self.check((), ())

    def test_the_table(self):
        ask = an_ask(house="x.a.b", origin="y.a.b")
        self.check((a_note(reach="near"),), (12,), ask, 12)
        self.check((a_note(reach="near"),), (9,), ask, 12, ("a.b",))


class RefusalsOfSending(unittest.TestCase):
    CALLS = (sent, sent_text, used)

    def test_refusals(self):
        for call in self.CALLS:
            for wrong in WRONG_TABLES:
                self.assertIs(refusal(call, wrong, (), ASK, 9), NoTable, repr(wrong))
            for wrong in WRONG_JARS:
                self.assertIs(refusal(call, (), wrong, ASK, 9), NoJar, repr(wrong))
            for wrong in WRONG_ASKS:
                self.assertIs(refusal(call, (), (), wrong, 9), NoAsk, repr(wrong))
            for wrong in WRONG_MOMENTS:
                self.assertIs(refusal(call, (), (), ASK, wrong), NoNumber, repr(wrong))

    def test_the_order_of_refusals(self):
        for call in self.CALLS:
            for handed, due in orders(TABLES, JARS, ASKS, MOMENTS):
                self.assertIs(refusal(call, *handed), due, handed)

    def test_used_later_is_not_refused(self):
        for call in self.CALLS:
            self.assertIsNone(refusal(call, (), (a_note(used=99),), ASK, 9))


if __name__ == "__main__":
    unittest.main()
