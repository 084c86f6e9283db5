"""Keepers: each keeps a jar, and makes room in it, as time goes by."""

from notejar.errors import NoNumber
from notejar.giving import read_given
from notejar.jars import forgotten, sent_text, swept, take_in, used, verdict
from notejar.names import need_table
from notejar.room import fit, need_room


class Keeper:
    def __init__(self, table, each, most):
        need_table(table)
        need_room(each)
        need_room(most)
        self.table = table
        self.each = each
        self.most = most
        self.jar = ()
        self.latest = 0

    def notes(self):
        return self.jar

    def clock(self):
        return self.latest

    def need_no_earlier(self, now):
        if now < self.latest:
            raise NoNumber("a later moment was told already")

    def hear(self, ask, text, now):
        word = verdict(self.table, self.jar, ask, text, now)
        self.need_no_earlier(now)
        notes = take_in(self.table, self.jar, ask, read_given(text), now)
        self.jar = fit(self.table, notes, self.each, self.most)
        self.latest = now
        return word

    def send(self, ask, now):
        text = sent_text(self.table, self.jar, ask, now)
        self.need_no_earlier(now)
        self.jar = used(self.table, swept(self.jar, now), ask, now)
        self.latest = now
        return text

    def step(self, now):
        left = swept(self.jar, now)
        self.need_no_earlier(now)
        self.jar = left
        self.latest = now

    def forget(self, house):
        left = forgotten(self.jar, house)
        gone = len(self.jar) - len(left)
        self.jar = left
        return gone
