"""Hops: deeds that go on by more than one row, always or by the number in met."""

from haulbell.deeds import Deed
from haulbell.errors import NoDeed
from haulbell.wholes import is_whole

MOST_HOPPED = 24


def is_many(thing):
    return is_whole(thing) and 0 <= thing <= MOST_HOPPED


def is_on(thing):
    return thing is None or (is_whole(thing) and (thing == 0 or thing == 1))


class Hop(Deed):
    def __init__(self, many, on=None):
        if not is_many(many) or not is_on(on):
            raise NoDeed("hop")
        self.many = many
        self.on = on

    def step(self, boxes, store):
        if self.on is None or self.on == boxes.holds("met"):
            return 1 + self.many
        return 1

    def words(self):
        told = ["hop", str(self.many)]
        if self.on is not None:
            told.extend(["if", str(self.on)])
        return told
