"""Desks: at each a jar is made step by step, and goes back and forth."""

from notejar.comparing import merged
from notejar.errors import NoStep
from notejar.jars import forgotten, swept, taken, verdict
from notejar.names import need_table


class Desk:
    def __init__(self, table):
        need_table(table)
        self.table = table
        self.jar = ()
        # A step that was done is kept with the jar ahead of it, one that was taken back with the jar behind it,
        # so that going either way is to change the jar for the one that is kept.
        self.done = []
        self.undone = []

    def notes(self):
        return self.jar

    def do_step(self, word, notes):
        self.done.append((word, self.jar))
        self.undone = []
        self.jar = notes

    def give(self, ask, text, now):
        notes = taken(self.table, self.jar, ask, text, now)
        word = verdict(self.table, self.jar, ask, text, now)
        self.do_step("give", notes)
        return word

    def sweep(self, now):
        return self.do_and_count("sweep", swept(self.jar, now))

    def forget(self, house):
        return self.do_and_count("forget", forgotten(self.jar, house))

    def do_and_count(self, word, left):
        gone = len(self.jar) - len(left)
        self.do_step(word, left)
        return gone

    def merge(self, jar):
        notes = merged(self.jar, jar)
        self.do_step("merge", notes)
        return len(notes)

    def back(self):
        return self.move(self.done, self.undone)

    def forth(self):
        return self.move(self.undone, self.done)

    def move(self, source, target):
        if source == []:
            raise NoStep("there is no such step")
        step = source.pop()
        target.append((step[0], self.jar))
        self.jar = step[1]
        return step[0]

    def steps(self):
        return (len(self.done), len(self.undone))

    def twin(self):
        other = Desk(self.table)
        other.jar = self.jar
        other.done = list(self.done)
        other.undone = list(self.undone)
        return other
