import unittest

from notejar.desks import Desk
from notejar.errors import NoAsk, NoJar, NoName, NoNote, NoNumber, NoStep, NoTable
from notejar.jars import taken, verdict
from things import ASKS, GIVEN_TEXTS, MOMENTS, WRONG_ASKS, WRONG_GIVEN_TEXTS, WRONG_JARS, WRONG_MOMENTS, WRONG_NAMES, WRONG_TABLES
from things import a_note, an_ask, numbered, orders, refusal

ASK = an_ask()
UNSAFE = an_ask(safe=False)
SOME = (a_note("k", safe=True), a_note("m", ends=12), a_note(house="x.a.b", made=4))


def desk_with(jar=SOME, table=()):
    """A desk with this jar, which has one step behind it."""
    desk = Desk(table)
    desk.merge(jar)
    return desk


def all_of(desk):
    """What can be seen of a desk, also by going back and forth; the desk is then as it was."""
    seen = [desk.notes(), desk.steps()]
    gone_back = desk.steps()[0]
    for count in range(gone_back):
        seen += [desk.back(), desk.notes(), desk.steps()]
    for count in range(sum(desk.steps())):
        seen += [desk.forth(), desk.notes(), desk.steps()]
    for count in range(desk.steps()[0] - gone_back):
        seen += [desk.back(), desk.notes(), desk.steps()]
    return seen


class Made(unittest.TestCase):
    def test_new(self):
        for table in ((), ("a.b",), ("!a.b", "*.b")):
            desk = Desk(table)
            self.assertEqual(desk.notes(), ())
            self.assertIsInstance(desk.notes(), tuple)
            self.assertEqual(desk.steps(), (0, 0))

    def test_refusals(self):
        for wrong in WRONG_TABLES:
            self.assertIs(refusal(Desk, wrong), NoTable, repr(wrong))


class Give(unittest.TestCase):
    WORDS = (("foreign", ASK, "n=5; for c.d"), ("open", ASK, "n=5; for b"), ("unsafe", UNSAFE, "n=5; safe"),
             ("marked", ASK, "safe-n=5"), ("far", an_ask(origin="c.b"), "n=5; near"), ("shadowed", UNSAFE, "k=5"),
             ("gone", ASK, "n=5; lasts 0"), ("gone", ASK, "k=5; for a.b; under /; lasts 0"), ("kept", ASK, "n=5"),
             ("kept", ASK, "k=5; for a.b; under /"))

    def test_each_word(self):
        for word, ask, text in self.WORDS:
            for now in (10, 12):
                desk = desk_with()
                self.assertEqual(desk.give(ask, text, now), word)
                self.assertEqual(desk.notes(), taken((), SOME, ask, text, now), (word, now))
                self.assertEqual(desk.steps(), (2, 0))
                self.assertEqual(verdict((), SOME, ask, text, now), word)

    def test_notes(self):
        desk = Desk(())
        self.assertEqual(desk.give(ASK, "n=5", 7), "kept")
        self.assertEqual(desk.notes(), (a_note(exact=True, path="/x", made=7, used=7),))
        self.assertEqual(desk.give(ASK, "n=6; until 9", 8), "kept")
        self.assertEqual(desk.notes(), (a_note(worth="6", exact=True, path="/x", ends=9, made=7, used=8),))
        self.assertEqual(desk.give(ASK, "m=5; for c.d", 9), "foreign")
        self.assertEqual(desk.notes(), ())

    def test_the_table(self):
        for table, word in (((), "kept"), (("a.b",), "open")):
            self.assertEqual(Desk(table).give(an_ask(house="x.a.b"), "n=5; for a.b", 0), word)

    def test_a_full_jar(self):
        desk = desk_with(numbered(20))
        self.assertIs(refusal(desk.give, ASK, "n=5", 30), NoJar)
        self.assertEqual((desk.notes(), desk.steps()), (numbered(20), (1, 0)))
        self.assertEqual(desk.give(ASK, "n=5; lasts 0", 30), "gone")
        self.assertEqual(desk.give(ASK, "n7=5; for a.b; under /", 30), "kept")
        self.assertEqual(len(desk.notes()), 20)


class OtherSteps(unittest.TestCase):
    def test_sweep(self):
        for now, gone, left in ((0, 0, SOME), (11, 0, SOME), (12, 1, (SOME[0], SOME[2])), (9999, 1, (SOME[0], SOME[2]))):
            desk = desk_with()
            self.assertEqual(desk.sweep(now), gone, now)
            self.assertEqual(desk.notes(), left, now)
            self.assertEqual(desk.steps(), (2, 0))
        self.assertEqual(Desk(()).sweep(0), 0)

    def test_forget(self):
        for house, gone, left in (("a.b", 3, ()), ("x.a.b", 1, SOME[:2]), ("b", 3, ()), ("y.a.b", 0, SOME), ("xa.b", 0, SOME)):
            desk = desk_with()
            self.assertEqual(desk.forget(house), gone, house)
            self.assertEqual(desk.notes(), left, house)
            self.assertEqual(desk.steps(), (2, 0))
        self.assertEqual(Desk(()).forget("a"), 0)

    def test_merge(self):
        desk = Desk(())
        self.assertEqual(desk.merge(SOME), 3)
        self.assertEqual(desk.notes(), SOME)
        self.assertEqual(desk.merge(()), 3)
        self.assertEqual(desk.merge((a_note("a", made=0), a_note("m", worth="6", used=10))), 4)
        self.assertEqual(desk.notes(), (a_note("a", made=0), SOME[0], a_note("m", worth="6", used=10), SOME[2]))
        self.assertEqual(desk.steps(), (3, 0))
        self.assertEqual(Desk(()).merge(()), 0)

    def test_its_own_jar_is_the_one(self):
        desk = desk_with((a_note(worth="1"),))
        self.assertEqual(desk.merge((a_note(worth="2"),)), 1)
        self.assertEqual(desk.notes(), (a_note(worth="1"),))

    def test_merge_up_to_twenty(self):
        desk = desk_with(numbered(20)[:11])
        self.assertEqual(desk.merge(numbered(20)), 20)
        self.assertEqual(desk.notes(), numbered(20))
        self.assertIs(refusal(desk.merge, (a_note(made=30, used=30),)), NoJar)
        self.assertEqual((desk.notes(), desk.steps()), (numbered(20), (2, 0)))

    def test_steps_that_changed_nothing_count(self):
        desk = Desk(())
        for step, handed, word in ((desk.sweep, (5,), "sweep"), (desk.forget, ("a",), "forget"), (desk.merge, ((),), "merge"),
                                   (desk.give, (ASK, "n=5; for c.d", 5), "give")):
            step(*handed)
            self.assertEqual(desk.steps(), (1, 0))
            self.assertEqual(desk.back(), word)
            self.assertEqual((desk.notes(), desk.steps()), ((), (0, 1)))
            self.assertEqual(desk.forth(), word)
            self.assertEqual((desk.notes(), desk.steps()), ((), (1, 0)))
            desk.back()


class BackAndForth(unittest.TestCase):
    def stepped(self):
        """A desk with a step of each kind, its words and its jars from the first one to the last."""
        desk = Desk(())
        jars = [desk.notes()]
        for step, handed in ((desk.give, (ASK, "n=5; lasts 5", 3)), (desk.merge, (SOME,)), (desk.sweep, (8,)),
                             (desk.forget, ("x.a.b",)), (desk.give, (ASK, "o=5; for b", 9)), (desk.sweep, (0,))):
            step(*handed)
            jars.append(desk.notes())
        return desk, ["give", "merge", "sweep", "forget", "give", "sweep"], jars

    def test_each_kind_of_step(self):
        desk, words, jars = self.stepped()
        self.assertEqual([len(jar) for jar in jars], [0, 1, 4, 3, 2, 2, 2])
        for turn in range(2):
            for count in range(6, 0, -1):
                self.assertEqual((desk.notes(), desk.steps()), (jars[count], (count, 6 - count)))
                self.assertEqual(desk.back(), words[count - 1])
            for count in range(6):
                self.assertEqual((desk.notes(), desk.steps()), (jars[count], (count, 6 - count)))
                self.assertEqual(desk.forth(), words[count])
            self.assertEqual((desk.notes(), desk.steps()), (jars[6], (6, 0)))

    def test_some_back_and_some_forth(self):
        desk, words, jars = self.stepped()
        place = 6
        for move in "bbfbbbfffbfbbbbbffffff":
            place += -1 if move == "b" else 1
            told = desk.back() if move == "b" else desk.forth()
            self.assertEqual(told, words[place] if move == "b" else words[place - 1])
            self.assertEqual((desk.notes(), desk.steps()), (jars[place], (place, 6 - place)))

    def test_where_there_is_none(self):
        desk = Desk(())
        self.assertIs(refusal(desk.back), NoStep)
        self.assertIs(refusal(desk.forth), NoStep)
        self.assertEqual((desk.notes(), desk.steps()), ((), (0, 0)))

    def test_ahead_of_the_first_and_behind_the_last(self):
        desk, words, jars = self.stepped()
        self.assertIs(refusal(desk.forth), NoStep)
        self.assertEqual((desk.notes(), desk.steps()), (jars[6], (6, 0)))
        for count in range(6):
            desk.back()
        self.assertIs(refusal(desk.back), NoStep)
        self.assertEqual((desk.notes(), desk.steps()), ((), (0, 6)))
        self.assertEqual(desk.forth(), "give")

    def test_forth_behind_a_new_step(self):
        for method, handed in (("give", (ASK, "q=5", 9)), ("give", (ASK, "q=5; for c.d", 9)), ("sweep", (0,)), ("forget", ("q",)),
                               ("merge", ((),))):
            desk, words, jars = self.stepped()
            desk.back()
            desk.back()
            getattr(desk, method)(*handed)
            self.assertEqual(desk.steps(), (5, 0))
            self.assertIs(refusal(desk.forth), NoStep)
            self.assertEqual(desk.back(), method)
            self.assertEqual((desk.notes(), desk.steps()), (jars[4], (4, 1)))
            self.assertEqual(desk.forth(), method)
            self.assertEqual(desk.steps(), (5, 0))
            self.assertEqual([desk.back() for count in range(5)], [method] + words[3::-1])
            self.assertEqual((desk.notes(), desk.steps()), ((), (0, 5)))

    def test_back_and_forth_are_no_steps(self):
        desk, words, jars = self.stepped()
        desk.back()
        desk.forth()
        desk.back()
        desk.back()
        self.assertEqual(desk.back(), "forget")
        self.assertEqual(desk.steps(), (3, 3))


class Refusals(unittest.TestCase):
    def desk(self):
        """Two steps can be taken back, two done again."""
        desk = desk_with()
        desk.give(ASK, "o=5", 10)
        desk.sweep(12)
        desk.forget("x.a.b")
        desk.back()
        desk.back()
        return desk

    def check(self, due, method, *handed):
        desk = self.desk()
        self.assertIs(refusal(getattr(desk, method), *handed), due, (method, handed))
        if due is not None:
            self.assertEqual(all_of(desk), all_of(self.desk()), (method, handed))

    def test_give(self):
        for wrong in WRONG_ASKS:
            self.check(NoAsk, "give", wrong, "n=5", 12)
        for wrong in WRONG_GIVEN_TEXTS:
            self.check(NoNote, "give", ASK, wrong, 12)
        for wrong in WRONG_MOMENTS:
            self.check(NoNumber, "give", ASK, "n=5", wrong)

    def test_give_where_a_note_was_used_later(self):
        for now, due in ((0, NoNumber), (9, NoNumber), (10, None), (11, None), (9999, None)):
            self.check(due, "give", ASK, "n=5", now)
            self.check(due, "give", ASK, "n=5; for c.d", now)

    def test_the_order_of_refusals(self):
        moments = ((10, None), (9, NoNumber)) + MOMENTS[1:]
        for handed, due in orders(ASKS, GIVEN_TEXTS, moments):
            self.check(due, "give", *handed)

    def test_sweep_forget_and_merge(self):
        for wrong in WRONG_MOMENTS:
            self.check(NoNumber, "sweep", wrong)
        for wrong in WRONG_NAMES:
            self.check(NoName, "forget", wrong)
        for wrong in WRONG_JARS + [numbered(17), numbered(20)]:
            self.check(NoJar, "merge", wrong)
        self.check(None, "merge", numbered(16))

    def test_no_moment_is_ahead_for_sweep(self):
        desk = desk_with()
        desk.sweep(9000)
        self.assertEqual(desk.sweep(0), 0)
        self.assertEqual(desk.steps(), (3, 0))


class Twin(unittest.TestCase):
    def desk(self, back=0):
        desk = Desk(())
        desk.give(ASK, "k=5; lasts 5", 3)
        desk.merge(SOME)
        desk.sweep(8)
        for count in range(back):
            desk.back()
        return desk

    def test_as_this_one(self):
        for back in range(4):
            desk = self.desk(back)
            twin = desk.twin()
            self.assertIsInstance(twin, Desk)
            self.assertIsNot(twin, desk)
            self.assertEqual((twin.notes(), twin.steps()), (desk.notes(), desk.steps()))
            self.assertEqual(all_of(twin), all_of(desk))
            self.assertEqual(all_of(twin.twin()), all_of(desk))

    def test_of_a_new_one(self):
        twin = Desk(()).twin()
        self.assertEqual((twin.notes(), twin.steps()), ((), (0, 0)))
        self.assertIs(refusal(twin.back), NoStep)
        self.assertIs(refusal(twin.forth), NoStep)

    def test_the_table_comes_along(self):
        for table, word in (((), "kept"), (("a.b",), "open")):
            self.assertEqual(Desk(table).twin().give(an_ask(house="x.a.b"), "n=5; for a.b", 0), word)

    def test_what_is_done_at_one_leaves_the_other_as_it_is(self):
        moves = (("give", (ASK, "q=5", 20)), ("sweep", (20,)), ("forget", ("b",)), ("merge", ((a_note("q"),),)), ("back", ()),
                 ("forth", ()))
        for back in (1, 2):
            for method, handed in moves:
                for again in ("back", "forth", "sweep"):
                    for done_at in (0, 1, 2):
                        desk = self.desk(back)
                        three = (desk, desk.twin(), desk.twin().twin())
                        getattr(three[done_at], method)(*handed)
                        refusal(getattr(three[done_at], again), *((5,) if again == "sweep" else ()))
                        for place in range(3):
                            if place != done_at:
                                self.assertEqual(all_of(three[place]), all_of(self.desk(back)), (method, again, done_at))

    def test_each_goes_by_itself(self):
        one = self.desk(1)
        other = one.twin()
        self.assertEqual(one.forth(), "sweep")
        self.assertEqual(other.give(ASK, "q=5", 20), "kept")
        self.assertEqual((one.steps(), other.steps()), ((3, 0), (3, 0)))
        self.assertEqual(one.back(), "sweep")
        self.assertEqual(other.back(), "give")
        self.assertEqual((one.notes(), one.steps()), (other.notes(), other.steps()))
        self.assertEqual(one.forth(), "sweep")
        self.assertEqual(other.forth(), "give")


class Several(unittest.TestCase):
    def test_two_desks_do_not_hang_on_one_another(self):
        one = desk_with()
        other = Desk(())
        self.assertEqual((other.notes(), other.steps()), ((), (0, 0)))
        other.give(ASK, "z=1", 3)
        self.assertEqual((one.notes(), one.steps()), (SOME, (1, 0)))

    def test_steps_told_earlier_stay(self):
        desk = desk_with()
        told, notes = desk.steps(), desk.notes()
        self.assertIsInstance(told, tuple)
        desk.forget("b")
        self.assertEqual((told, notes), ((1, 0), SOME))


if __name__ == "__main__":
    unittest.main()
