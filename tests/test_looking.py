import unittest

from notejar.errors import NoAsk, NoJar, NoNumber, NoTable
from notejar.looking import along, by_group, ending
from things import ASK_LISTS, JARS, MOMENTS, TABLES, WRONG_ASK_LISTS, WRONG_JARS, WRONG_MOMENTS, WRONG_TABLES, a_note, an_ask
from things import copied, numbered, orders, refusal

ASK = an_ask()


class ByGroup(unittest.TestCase):
    def check(self, told, jar, table=()):
        self.assertEqual(by_group(table, jar), told, (table, jar))
        self.assertIsInstance(by_group(table, jar), list)
        for part in by_group(table, jar):
            self.assertIsInstance(part, tuple)
            self.assertIsInstance(part[1], list)

    def test_none(self):
        self.check([], ())
        self.check([], (), ("a.b",))

    def test_a_house_with_an_own_end(self):
        self.check([("a.b", [("n", "a.b", "/")])], (a_note(),))
        self.check([("a.b", [("n", "x.a.b", "/")])], (a_note(house="x.a.b"),))
        self.check([("x.a.b", [("n", "x.a.b", "/")])], (a_note(house="x.a.b"),), ("a.b",))
        self.check([("a.b", [("n", "x.a.b", "/")])], (a_note(house="x.a.b"),), ("!a.b", "*.b"))

    def test_a_house_without_one(self):
        self.check([("b", [("n", "b", "/")])], (a_note(house="b"),))
        self.check([("a.b", [("n", "a.b", "/")])], (a_note(),), ("a.b",))

    def test_several_houses_of_one_group(self):
        jar = (a_note(house="x.a.b"), a_note(house="b"), a_note(house="a.b"), a_note(house="c.b"), a_note(house="y.x.a.b"))
        self.check([("a.b", [("n", "a.b", "/"), ("n", "x.a.b", "/"), ("n", "y.x.a.b", "/")]), ("b", [("n", "b", "/")]),
                    ("c.b", [("n", "c.b", "/")])], jar)
        self.check([("a.b", [("n", "a.b", "/")]), ("b", [("n", "b", "/")]), ("c.b", [("n", "c.b", "/")]),
                    ("x.a.b", [("n", "x.a.b", "/"), ("n", "y.x.a.b", "/")])], jar, ("a.b",))

    def test_rising_keys(self):
        jar = (a_note("z"), a_note("a", path="/x"), a_note("a"), a_note("a", house="x.a.b"), a_note("Z"), a_note("a", path="/b"))
        self.check([("a.b", [("Z", "a.b", "/"), ("a", "a.b", "/"), ("a", "a.b", "/b"), ("a", "a.b", "/x"), ("a", "x.a.b", "/"),
                             ("z", "a.b", "/")])], jar)

    def test_rising_groups(self):
        houses = ("z", "b.c", "a.c", "a-b.c", "a", "ab.c")
        told = by_group((), tuple([a_note(house=house) for house in houses]))
        self.assertEqual([part[0] for part in told], ["a", "a-b.c", "a.c", "ab.c", "b.c", "z"])

    def test_a_full_jar(self):
        self.check([("a.b", sorted([("n" + str(number), "a.b", "/") for number in range(20)]))], numbered(20))

    def test_refusals(self):
        for wrong in WRONG_TABLES:
            self.assertIs(refusal(by_group, wrong, ()), NoTable, repr(wrong))
        for wrong in WRONG_JARS:
            self.assertIs(refusal(by_group, (), wrong), NoJar, repr(wrong))
        for handed, due in orders(TABLES, JARS):
            self.assertIs(refusal(by_group, *handed), due, handed)

    def test_told_lists_may_be_changed(self):
        jar = (a_note("m"), a_note())
        told = by_group((), jar)
        told[0][1].append(None)
        told[0][1][0] = None
        told.clear()
        self.check([("a.b", [("m", "a.b", "/"), ("n", "a.b", "/")])], jar)


class Ending(unittest.TestCase):
    JAR = (a_note("k", ends=8), a_note("l", ends=14), a_note("m", ends=9), a_note("n"), a_note("o", ends=10), a_note("p", ends=15),
           a_note("q", ends=13))

    def check(self, told, now, far, jar=JAR):
        self.assertEqual(ending(jar, now, far), [note for note in jar if note[0] in told], (now, far))
        self.assertIsInstance(ending(jar, now, far), list)

    def test_between(self):
        self.check("loq", 9, 5)
        self.check("lmoq", 8, 6)
        self.check("lopq", 9, 6)
        self.check("oq", 9, 4)
        self.check("o", 9, 1)
        self.check("klmopq", 0, 15)
        self.check("klmopq", 7, 9999)
        self.check("", 0, 7)
        self.check("k", 0, 8)
        self.check("", 15, 9999)

    def test_far_is_nothing(self):
        for now in range(20):
            self.check("", now, 0)

    def test_beyond_the_last_moment(self):
        jar = (a_note("k", ends=9998), a_note("l", ends=9999), a_note("m"))
        self.check("kl", 9997, 9999, jar)
        self.check("l", 9998, 9999, jar)
        self.check("l", 9998, 1, jar)
        self.check("", 9999, 9999, jar)
        self.check("kl", 0, 9999, jar)
        self.check("k", 0, 9998, jar)

    def test_none(self):
        self.check("", 9, 5, ())
        self.check("", 9, 9999, (a_note(),))

    def test_refusals(self):
        for wrong in WRONG_JARS:
            self.assertIs(refusal(ending, wrong, 9, 5), NoJar, repr(wrong))
        for wrong in WRONG_MOMENTS:
            self.assertIs(refusal(ending, self.JAR, wrong, 5), NoNumber, repr(wrong))
            self.assertIs(refusal(ending, self.JAR, 9, wrong), NoNumber, repr(wrong))
            self.assertIs(refusal(ending, (), 9, wrong), NoNumber, repr(wrong))
        for handed, due in orders(JARS, MOMENTS, MOMENTS):
            self.assertIs(refusal(ending, *handed), due, handed)
        self.assertIsNone(refusal(ending, (), 9999, 9999))

    def test_a_told_list_may_be_changed(self):
        told = ending(self.JAR, 9, 5)
        told[0] = None
        told.append(None)
        self.check("loq", 9, 5)


class Along(unittest.TestCase):
    JAR = (a_note("k"), a_note("l", safe=True), a_note("m", path="/x"), a_note("n", house="c.d"), a_note("o", reach="near"),
           a_note("p", ends=9), a_note("q", exact=True))
    ASKS = [an_ask(), an_ask(safe=False), an_ask(path="/q"), an_ask(house="x.a.b"), an_ask(origin="c.d"), an_ask(house="e")]

    def check(self, told, asks, now=9, jar=JAR, table=()):
        due = [((note[0], note[2], note[4]), numbers) for note, numbers in zip(jar, told, strict=True)]
        self.assertEqual(along(table, jar, asks, now), due, (table, asks, now))
        self.assertIsInstance(along(table, jar, asks, now), list)
        for part in along(table, jar, asks, now):
            self.assertIsInstance(part, tuple)
            self.assertIsInstance(part[1], list)

    def test_none_one_and_several(self):
        self.check([[0, 1, 2, 3, 4], [0, 2, 3, 4], [0, 1, 3, 4], [], [0, 1, 2, 3], [], [0, 1, 2, 4]], self.ASKS)
        self.check([[0, 1, 2, 3, 4], [0, 2, 3, 4], [0, 1, 3, 4], [], [0, 1, 2, 3], [0, 1, 2, 3, 4], [0, 1, 2, 4]], self.ASKS, 8)
        self.check([[], [], [], [0], [], [], []], [an_ask(house="c.d")])
        self.check([[], [], [], [], [], [], []], [an_ask(house="e")])

    def test_the_table(self):
        ask = an_ask(house="x.a.b", origin="y.a.b")
        self.check([[0], [0], [0], [], [0], [], []], [ask])
        self.check([[0], [0], [0], [], [], [], []], [ask], table=("a.b",))

    def test_no_asks(self):
        self.check([[]] * 7, [])
        self.check([], [], jar=())

    def test_no_notes(self):
        self.check([], self.ASKS, jar=())

    def test_how_many_asks(self):
        for count in range(10):
            self.check([list(range(count))], [ASK] * count, jar=(a_note(),))
        self.assertIs(refusal(along, (), (a_note(),), [ASK] * 10, 9), NoAsk)

    def test_the_order_of_the_jar(self):
        self.check([[0], [0], [0]], [ASK], jar=(a_note("z"), a_note("a", path="/x"), a_note("k")))

    def test_refusals(self):
        for wrong in WRONG_TABLES:
            self.assertIs(refusal(along, wrong, self.JAR, [ASK], 9), NoTable, repr(wrong))
        for wrong in WRONG_JARS:
            self.assertIs(refusal(along, (), wrong, [ASK], 9), NoJar, repr(wrong))
        for wrong in WRONG_ASK_LISTS:
            self.assertIs(refusal(along, (), self.JAR, wrong, 9), NoAsk, repr(wrong))
            self.assertIs(refusal(along, (), (), wrong, 9), NoAsk, repr(wrong))
        for wrong in WRONG_MOMENTS:
            self.assertIs(refusal(along, (), self.JAR, [ASK], wrong), NoNumber, repr(wrong))
            self.assertIs(refusal(along, (), (), [], wrong), NoNumber, repr(wrong))
        for handed, due in orders(TABLES, JARS, ASK_LISTS, MOMENTS):
            self.assertIs(refusal(along, *handed), due, handed)

    def test_the_list_of_asks_stays_as_it_was(self):
        asks = list(self.ASKS)
        along((), self.JAR, asks, 9)
        self.assertEqual(asks, self.ASKS)
        for wrong in WRONG_ASK_LISTS:
            before = copied(wrong)
            refusal(along, (), self.JAR, wrong, 9)
            self.assertEqual(wrong, before)

    def test_told_lists_may_be_changed(self):
        jar = (a_note("m"), a_note())
        told = along((), jar, [ASK], 9)
        told[0][1].append(None)
        told[1][1].clear()
        told.pop()
        self.check([[0], [0]], [ASK], jar=jar)


if __name__ == "__main__":
    unittest.main()
