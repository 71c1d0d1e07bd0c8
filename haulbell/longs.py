"""Long deeds: copy, fill, seek, match, shift and turn, which go on in the boxes alone.

In each step the store is asked ahead of every change to the boxes, so that a
refused step changes nothing. A cell that the store has lies far within what
here and there can hold, so that going on from it always fits.
"""

from haulbell.deeds import Deed
from haulbell.errors import Stop


def more(boxes, box, by):
    boxes.give(box, boxes.holds(box) + by)


def go_by_way(boxes, box):
    more(boxes, box, boxes.holds("way"))


def less_left(boxes, by):
    more(boxes, "left", -by)
    return 1 if boxes.holds("left") == 0 else 0


def ask_put(store, cell):
    if not store.may("put", cell):
        raise Stop("put", cell)


def haul(store, source, target):
    content = store.look(source)
    store.put(target, content)


def exchange(store, one, other):
    first = store.look(one)
    second = store.look(other)
    # Both are asked ahead of the first put, for that could not be taken back.
    ask_put(store, one)
    ask_put(store, other)
    store.put(one, second)
    store.put(other, first)


class Copy(Deed):
    def step(self, boxes, store):
        if boxes.holds("left") == 0:
            return 1
        haul(store, boxes.holds("here"), boxes.holds("there"))
        go_by_way(boxes, "here")
        go_by_way(boxes, "there")
        return less_left(boxes, 1)

    def words(self):
        return ["copy"]


class Fill(Deed):
    def step(self, boxes, store):
        if boxes.holds("left") == 0:
            return 1
        store.put(boxes.holds("there"), boxes.holds("sign"))
        go_by_way(boxes, "there")
        return less_left(boxes, 1)

    def words(self):
        return ["fill"]


class Seek(Deed):
    def step(self, boxes, store):
        if boxes.holds("left") == 0:
            boxes.give("met", 0)
            return 1
        if store.look(boxes.holds("here")) == boxes.holds("sign"):
            boxes.give("met", 1)
            return 1
        boxes.give("met", 0)
        go_by_way(boxes, "here")
        return less_left(boxes, 1)

    def words(self):
        return ["seek"]


class Match(Deed):
    def step(self, boxes, store):
        if boxes.holds("left") == 0:
            boxes.give("met", 1)
            return 1
        content = store.look(boxes.holds("here"))
        if content != store.look(boxes.holds("there")):
            boxes.give("met", 0)
            return 1
        boxes.give("met", 1)
        go_by_way(boxes, "here")
        go_by_way(boxes, "there")
        return less_left(boxes, 1)

    def words(self):
        return ["match"]


class Shift(Deed):
    def step(self, boxes, store):
        left = boxes.holds("left")
        if left == 0:
            return 1
        here = boxes.holds("here")
        there = boxes.holds("there")
        # From the end where no cell is put that is still to be looked at.
        if there <= here:
            haul(store, here, there)
            more(boxes, "here", 1)
            more(boxes, "there", 1)
        else:
            haul(store, here + left - 1, there + left - 1)
        return less_left(boxes, 1)

    def words(self):
        return ["shift"]


class Turn(Deed):
    def step(self, boxes, store):
        left = boxes.holds("left")
        if left == 0:
            return 1
        if left == 1:
            return less_left(boxes, 1)
        here = boxes.holds("here")
        exchange(store, here, here + left - 1)
        more(boxes, "here", 1)
        return less_left(boxes, 2)

    def words(self):
        return ["turn"]
