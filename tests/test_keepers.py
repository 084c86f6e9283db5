import itertools
import unittest

from notejar.errors import NoAsk, NoName, NoNote, NoNumber, NoTable
from notejar.jars import is_jar, sent_text, taken, verdict
from notejar.keepers import Keeper
from notejar.room import fitted
from things import ASKS, GIVEN_TEXTS, ROOMS, TABLES, WRONG_ASKS, WRONG_GIVEN_TEXTS, WRONG_MOMENTS, WRONG_NAMES, WRONG_ROOMS
from things import WRONG_TABLES, a_note, an_ask, orders, refusal, with_part

ASK = an_ask()
UNSAFE = an_ask(safe=False)
# The clock is at 9 in a keeper that has heard_some: 8 is ahead of it.
MOMENTS = ((9, None), (8, NoNumber), (-1, NoNumber), (True, NoNumber))


def heard(name="n", worth="5", house="a.b", exact=True, path="/x", ends=None, safe=False, reach="any", made=9, used=9):
    """The note that an ask of a.b leaves, unless another thing is told."""
    return a_note(name, worth, house, exact, path, ends, safe, reach, made, used)


def heard_some(table=(), each=20, most=20):
    keeper = Keeper(table, each, most)
    keeper.hear(ASK, "k=5; safe", 3)
    keeper.hear(ASK, "l=5; for a.b; until 12", 5)
    keeper.hear(an_ask(house="x.a.b"), "m=5", 7)
    keeper.step(9)
    return keeper


SOME = (heard("k", safe=True, made=3, used=3), heard("l", exact=False, ends=12, made=5, used=5),
        heard("m", house="x.a.b", made=7, used=7))


class Made(unittest.TestCase):
    def test_new(self):
        for table, each, most in (((), 0, 0), (("a.b",), 20, 20), (("!a.b", "*.b"), 1, 20), ((), 20, 1)):
            keeper = Keeper(table, each, most)
            self.assertEqual(keeper.notes(), ())
            self.assertIsInstance(keeper.notes(), tuple)
            self.assertEqual(keeper.clock(), 0)

    def test_refusals(self):
        for wrong in WRONG_TABLES:
            self.assertIs(refusal(Keeper, wrong, 5, 5), NoTable, repr(wrong))
        for wrong in WRONG_ROOMS:
            self.assertIs(refusal(Keeper, (), wrong, 5), NoNumber, repr(wrong))
            self.assertIs(refusal(Keeper, (), 5, wrong), NoNumber, repr(wrong))

    def test_the_order_of_refusals(self):
        for handed, due in orders(TABLES, ROOMS, ROOMS):
            self.assertIs(refusal(Keeper, *handed), due, handed)

    def test_some_heard(self):
        self.assertEqual(heard_some().notes(), SOME)
        self.assertEqual(heard_some().clock(), 9)


class Hear(unittest.TestCase):
    WORDS = (("foreign", ASK, "n=5; for c.d"), ("open", ASK, "n=5; for b"), ("unsafe", UNSAFE, "n=5; safe"),
             ("marked", ASK, "safe-n=5"), ("far", an_ask(origin="c.b"), "n=5; near"), ("shadowed", UNSAFE, "k=5"),
             ("gone", ASK, "n=5; lasts 0"), ("kept", ASK, "n=5"))

    def test_each_word(self):
        for word, ask, text in self.WORDS:
            keeper = heard_some()
            self.assertEqual(keeper.hear(ask, text, 10), word)
            self.assertEqual(keeper.notes(), SOME + ((heard(made=10, used=10),) if word == "kept" else ()), word)
            self.assertEqual(keeper.clock(), 10, word)

    def test_each_word_sweeps_and_sets_the_clock(self):
        for word, ask, text in self.WORDS:
            keeper = heard_some()
            self.assertEqual(keeper.hear(ask, text, 12), word)
            self.assertEqual(keeper.notes()[:2], (SOME[0], SOME[2]), word)
            self.assertEqual(keeper.clock(), 12, word)

    def test_a_key_that_is_there(self):
        keeper = heard_some()
        self.assertEqual(keeper.hear(ASK, "k=6; safe; near", 10), "kept")
        self.assertEqual(keeper.notes(), (heard("k", "6", safe=True, reach="near", made=3, used=10),) + SOME[1:])

    def test_gone_with_a_note_of_its_key(self):
        keeper = heard_some()
        self.assertEqual(keeper.hear(ASK, "k=6; until 10", 10), "gone")
        self.assertEqual(keeper.notes(), SOME[1:])

    def test_the_table(self):
        for table, word in (((), "kept"), (("a.b",), "open")):
            self.assertEqual(Keeper(table, 5, 5).hear(an_ask(house="x.a.b"), "n=5; for a.b", 0), word)

    def test_one_more_than_there_is_room_for_in_a_group(self):
        keeper = Keeper((), 2, 20)
        for place, name in enumerate("klmn"):
            self.assertEqual(keeper.hear(ASK, name + "=5", place), "kept")
        keeper.hear(an_ask(house="c.d"), "o=5", 4)
        self.assertEqual([note[0] for note in keeper.notes()], ["m", "n", "o"])

    def test_groups_go_by_the_table(self):
        for table, left in (((), ["l"]), (("a.b",), ["k", "l"])):
            keeper = Keeper(table, 1, 20)
            keeper.hear(an_ask(house="x.a.b"), "k=5", 0)
            keeper.hear(an_ask(house="y.a.b"), "l=5", 1)
            self.assertEqual([note[0] for note in keeper.notes()], left)

    def test_one_more_than_there_is_room_for_in_all(self):
        keeper = Keeper((), 20, 2)
        for place, house in enumerate(("a.b", "c.d", "e.f")):
            self.assertEqual(keeper.hear(an_ask(house=house), "n=5", place), "kept")
        self.assertEqual([note[2] for note in keeper.notes()], ["c.d", "e.f"])

    def test_the_new_one_may_be_dropped_at_once(self):
        keeper = Keeper((), 20, 1)
        keeper.hear(ASK, "k=5; safe", 0)
        self.assertEqual(keeper.hear(ASK, "l=5", 1), "kept")
        self.assertEqual([note[0] for note in keeper.notes()], ["k"])

    def test_no_room_at_all(self):
        for each, most in ((0, 20), (20, 0), (0, 0)):
            keeper = Keeper((), each, most)
            self.assertEqual(keeper.hear(ASK, "k=5; safe", 4), "kept")
            self.assertEqual(keeper.notes(), ())
            self.assertEqual(keeper.clock(), 4)

    def test_twenty_one_notes_for_a_moment(self):
        keeper = Keeper((), 20, 20)
        for number in range(25):
            self.assertEqual(keeper.hear(ASK, "n" + str(number) + "=5", number), "kept")
            left = range(max(0, number - 19), number + 1)
            self.assertEqual([note[0] for note in keeper.notes()], ["n" + str(one) for one in left])
            self.assertIs(is_jar(keeper.notes()), True)

    def test_twenty_one_notes_for_a_moment_over_groups(self):
        keeper = Keeper((), 3, 20)
        for number in range(20):
            keeper.hear(an_ask(house="h" + str(number // 3) + ".b"), "n" + str(number) + "=5; safe", number)
        self.assertEqual(len(keeper.notes()), 20)
        self.assertEqual(keeper.hear(an_ask(house="h0.b"), "o=5", 30), "kept")
        self.assertEqual([note[0] for note in keeper.notes()], ["n" + str(number) for number in range(20)])
        self.assertEqual(keeper.hear(an_ask(house="h1.b"), "o=5; safe", 30), "kept")
        self.assertEqual(len(keeper.notes()), 20)
        self.assertNotIn("n3", [note[0] for note in keeper.notes()])

    def test_as_taken_and_fitted_tell(self):
        texts = ("n=5", "n=6; for a.b; under /", "n=7; safe", "m=5; lasts 2", "m=5; lasts 0", "k=5; near; under /x/y")
        asks = (ASK, UNSAFE, an_ask(house="x.a.b", origin="c.b"), an_ask(house="c.b", path="/"))
        keeper = Keeper((), 3, 5)
        jar = ()
        for now, (text, ask) in enumerate(itertools.product(texts, asks)):
            word = verdict((), jar, ask, text, now)
            jar = fitted((), taken((), jar, ask, text, now), 3, 5)
            self.assertEqual(keeper.hear(ask, text, now), word)
            self.assertEqual(keeper.notes(), jar)


class Send(unittest.TestCase):
    def test_the_text(self):
        keeper = heard_some()
        self.assertEqual(keeper.send(ASK, 10), "k=5; l=5")
        self.assertEqual(keeper.send(UNSAFE, 10), "l=5")
        self.assertEqual(keeper.send(an_ask(house="x.a.b"), 10), "l=5; m=5")
        self.assertEqual(keeper.send(an_ask(house="c"), 10), "")
        self.assertEqual(Keeper((), 5, 5).send(ASK, 0), "")

    def test_longer_paths_first(self):
        keeper = heard_some()
        keeper.hear(ASK, "o=6; under /x/y", 10)
        self.assertEqual(keeper.send(ASK, 10), sent_text((), keeper.notes(), ASK, 10))
        self.assertEqual(keeper.send(ASK, 10), "o=6; k=5; l=5")

    def test_used_and_the_clock(self):
        keeper = heard_some()
        keeper.send(ASK, 11)
        self.assertEqual(keeper.notes(), (with_part(SOME[0], 9, 11), with_part(SOME[1], 9, 11), SOME[2]))
        self.assertEqual(keeper.clock(), 11)

    def test_swept(self):
        keeper = heard_some()
        self.assertEqual(keeper.send(an_ask(house="x.a.b"), 12), "m=5")
        self.assertEqual(keeper.notes(), (SOME[0], with_part(SOME[2], 9, 12)))
        self.assertEqual(keeper.clock(), 12)
        keeper = heard_some()
        self.assertEqual(keeper.send(an_ask(house="c"), 9999), "")
        self.assertEqual(keeper.notes(), (SOME[0], SOME[2]))
        self.assertEqual(keeper.clock(), 9999)

    def test_what_was_sent_is_dropped_later(self):
        keeper = Keeper((), 2, 20)
        keeper.hear(ASK, "k=5; under /x", 1)
        keeper.hear(ASK, "l=5; under /q", 2)
        keeper.send(ASK, 3)
        keeper.hear(ASK, "m=5", 4)
        self.assertEqual([note[0] for note in keeper.notes()], ["k", "m"])

    def test_the_table(self):
        ask = an_ask(house="x.a.b", origin="y.a.b")
        for table, text in (((), "n=5"), (("a.b",), "")):
            keeper = Keeper(table, 5, 5)
            self.assertEqual(keeper.hear(an_ask(house="x.a.b"), "n=5; near", 0), "kept")
            self.assertEqual(keeper.send(ask, 0), text)


class StepAndForget(unittest.TestCase):
    def test_step(self):
        for now, left in ((9, SOME), (11, SOME), (12, (SOME[0], SOME[2])), (9999, (SOME[0], SOME[2]))):
            keeper = heard_some()
            self.assertIsNone(keeper.step(now))
            self.assertEqual(keeper.notes(), left, now)
            self.assertEqual(keeper.clock(), now)

    def test_step_of_an_empty_one(self):
        keeper = Keeper((), 5, 5)
        self.assertIsNone(keeper.step(0))
        self.assertEqual(keeper.clock(), 0)
        self.assertIsNone(keeper.step(7))
        self.assertEqual((keeper.notes(), keeper.clock()), ((), 7))

    def test_forget(self):
        for house, gone, left in (("a.b", 3, ()), ("x.a.b", 1, SOME[:2]), ("b", 3, ()), ("y.a.b", 0, SOME), ("c", 0, SOME),
                                  ("xa.b", 0, SOME)):
            keeper = heard_some()
            self.assertEqual(keeper.forget(house), gone, house)
            self.assertEqual(keeper.notes(), left, house)
            self.assertEqual(keeper.clock(), 9)
            self.assertEqual(keeper.forget(house), 0, house)

    def test_forget_leaves_what_has_ended_elsewhere(self):
        # Only a moment that is told sweeps, and forget is told none.
        keeper = heard_some()
        keeper.forget("x.a.b")
        self.assertIn(SOME[1], keeper.notes())


class Refusals(unittest.TestCase):
    def check(self, due, method, *handed):
        keeper = heard_some()
        self.assertIs(refusal(getattr(keeper, method), *handed), due, (method, handed))
        if due is not None:
            self.assertEqual((keeper.notes(), keeper.clock()), (SOME, 9), (method, handed))
            # It also goes on as if nothing had been handed in.
            self.assertEqual(keeper.send(ASK, 9), "k=5; l=5")

    def test_hear(self):
        for wrong in WRONG_ASKS:
            self.check(NoAsk, "hear", wrong, "n=5", 12)
        for wrong in WRONG_GIVEN_TEXTS:
            self.check(NoNote, "hear", ASK, wrong, 12)
        for wrong in WRONG_MOMENTS:
            self.check(NoNumber, "hear", ASK, "n=5", wrong)

    def test_send(self):
        for wrong in WRONG_ASKS:
            self.check(NoAsk, "send", wrong, 12)
        for wrong in WRONG_MOMENTS:
            self.check(NoNumber, "send", ASK, wrong)

    def test_step_and_forget(self):
        for wrong in WRONG_MOMENTS:
            self.check(NoNumber, "step", wrong)
        for wrong in WRONG_NAMES:
            self.check(NoName, "forget", wrong)

    def test_now_ahead_of_the_clock(self):
        for now, due in ((0, NoNumber), (8, NoNumber), (9, None), (10, None), (9999, None)):
            self.check(due, "hear", ASK, "n=5", now)
            self.check(due, "hear", ASK, "n=5; for c.d", now)
            self.check(due, "send", ASK, now)
            self.check(due, "send", an_ask(house="c"), now)
            self.check(due, "step", now)

    def test_the_order_of_refusals(self):
        for handed, due in orders(ASKS, GIVEN_TEXTS, MOMENTS):
            self.check(due, "hear", *handed)
        for handed, due in orders(ASKS, MOMENTS):
            self.check(due, "send", *handed)

    def test_each_moment_that_is_told_sets_the_clock(self):
        for told in ("hear", "send", "step"):
            keeper = Keeper((), 5, 5)
            calls = {"hear": lambda now: keeper.hear(ASK, "n=5; for c.d", now), "send": lambda now: keeper.send(ASK, now),
                     "step": keeper.step}
            calls[told](5)
            for other in calls:
                self.assertIs(refusal(calls[other], 4), NoNumber, (told, other))
                self.assertIsNone(refusal(calls[other], 5), (told, other))
            self.assertEqual(keeper.clock(), 5)


class Several(unittest.TestCase):
    def test_two_keepers_do_not_hang_on_one_another(self):
        one = heard_some()
        other = Keeper((), 20, 20)
        self.assertEqual((other.notes(), other.clock()), ((), 0))
        other.hear(ASK, "z=1", 3)
        self.assertEqual((one.notes(), one.clock()), (SOME, 9))
        one.step(5000)
        one.forget("b")
        self.assertEqual((other.notes(), other.clock()), ((heard("z", "1", made=3, used=3),), 3))

    def test_notes_told_earlier_stay(self):
        keeper = heard_some()
        told = keeper.notes()
        keeper.hear(ASK, "n=5", 12)
        keeper.send(ASK, 13)
        keeper.forget("b")
        self.assertEqual(told, SOME)


if __name__ == "__main__":
    unittest.main()
