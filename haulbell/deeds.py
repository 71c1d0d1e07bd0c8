"""Deeds, and the short ones among them: set, add, take, read and write."""

from haulbell.boxes import is_box, is_number
from haulbell.errors import NoDeed, NoFit
from haulbell.wholes import is_content


def check_box(word, box):
    if not is_box(box):
        raise NoDeed(word)


def check_number(word, number):
    if not is_number(number):
        raise NoDeed(word)


class Deed:
    pass


class Set(Deed):
    def __init__(self, box, number):
        check_box("set", box)
        check_number("set", number)
        self.box = box
        self.number = number

    def step(self, boxes, store):
        boxes.give(self.box, self.number)
        return 1

    def words(self):
        return ["set", self.box, str(self.number)]


class Add(Deed):
    def __init__(self, box, number):
        check_box("add", box)
        check_number("add", number)
        self.box = box
        self.number = number

    def step(self, boxes, store):
        boxes.give(self.box, boxes.holds(self.box) + self.number)
        return 1

    def words(self):
        return ["add", self.box, str(self.number)]


class Take(Deed):
    def __init__(self, box, other):
        check_box("take", box)
        check_box("take", other)
        self.box = box
        self.other = other

    def step(self, boxes, store):
        boxes.give(self.box, boxes.holds(self.other))
        return 1

    def words(self):
        return ["take", self.box, self.other]


class Read(Deed):
    def __init__(self, box):
        check_box("read", box)
        self.box = box

    def step(self, boxes, store):
        boxes.give(self.box, store.look(boxes.holds("here")))
        return 1

    def words(self):
        return ["read", self.box]


class Write(Deed):
    def __init__(self, box):
        check_box("write", box)
        self.box = box

    def step(self, boxes, store):
        number = boxes.holds(self.box)
        # Ahead of the store, which doesn't ask what it is given.
        if not is_content(number):
            raise NoFit(self.box, number)
        store.put(boxes.holds("there"), number)
        return 1

    def words(self):
        return ["write", self.box]
