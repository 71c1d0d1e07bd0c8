"""The desk: is told rows of words, and answers each with a text."""

from haulbell.book import Book, flat
from haulbell.boxes import Boxes, boxes_of
from haulbell.errors import NoRow, NoRows, NoStore, NoText
from haulbell.likeness import alike
from haulbell.reader import Reader
from haulbell.store import MOST_CELLS, Store
from haulbell.texts import block_from, show_state, state_from
from haulbell.watched import Watched
from haulbell.wholes import BOUND

MOST_STEPS = 1000000
FIRST_WORDS = ("name", "cells", "rows", "box", "leave", "run", "back", "why", "state", "load", "alike")
WITHOUT_A_STORE = ("name", "cells")
WITH_A_MACHINE = ("run", "back", "why", "state", "load")


def cells_from(reader):
    cells = [reader.take_number(0, BOUND)]
    while len(cells) < MOST_CELLS and not reader.ended():
        cells.append(reader.take_number(0, BOUND))
    return cells


def two_blocks_from(reader):
    first = block_from(reader)
    reader.take_word("and")
    return [first, block_from(reader)]


# What a row has behind its first word: nothing in a row of why or state.
def things_from(reader, word):
    if word == "name":
        return [reader.take_any(), block_from(reader)]
    if word == "cells":
        return [cells_from(reader)]
    if word == "rows":
        return [block_from(reader)]
    if word == "box":
        return [reader.take_box(), reader.take_any_number()]
    if word == "leave":
        return [reader.take_any_number(), reader.take_any_number(), reader.take_any()]
    if word == "run":
        return [reader.take_number(0, MOST_STEPS)]
    if word == "back":
        return [reader.take_any_number()]
    if word == "load":
        return list(state_from(reader))
    if word == "alike":
        return two_blocks_from(reader)
    return []


# The whole row is read ahead of anything else that could be refused.
def read_row(row):
    try:
        reader = Reader(row)
        word = reader.take(reader.ahead() in FIRST_WORDS)
        things = things_from(reader, word)
        reader.finish()
        return (word, things)
    except NoText:
        raise NoRow(row) from None


def joined(things):
    return " ".join([str(thing) for thing in things])


def store_of(cells, leaves):
    store = Store(cells)
    for cell, word in enumerate(leaves):
        store.leave(cell, cell + 1, word)
    return store


class Desk:
    def __init__(self):
        self.book = Book()
        # The store and the boxes as they stand ahead of a machine; where there
        # is one, its own are those of the desk.
        self.store = None
        self.boxes = Boxes()
        self.machine = None

    def say(self, row):
        told = read_row(row)
        self.check_ready(told[0])
        return self.answer(told[0], told[1])

    def check_ready(self, word):
        if word not in WITHOUT_A_STORE and self.store is None:
            raise NoStore(-1)
        if word in WITH_A_MACHINE and self.machine is None:
            raise NoRows(-1)

    def store_now(self):
        return self.store if self.machine is None else self.machine.store

    def boxes_now(self):
        return self.boxes if self.machine is None else self.machine.boxes

    def answer(self, word, things):
        if word == "run":
            return joined(self.machine.run(things[0]))
        if word == "why":
            return self.answer_why()
        if word == "state":
            return show_state(self.machine.state(), self.machine.leaves())
        if word == "alike":
            return self.answer_alike(things[0], things[1])
        self.change(word, things)
        return "ok"

    def answer_why(self):
        told = self.machine.why()
        return "nothing" if told is None else joined(told)

    def answer_alike(self, one, other):
        first = flat(self.book, one)
        second = flat(self.book, other)
        told = alike(first, second, self.boxes_now(), self.store_now().size())
        if told[0] == "alike":
            return "alike"
        return joined(["parted", told[1], told[3][0], told[3][1]] + told[2])

    def change(self, word, things):
        if word == "name":
            self.book.name(things[0], things[1])
        elif word == "cells":
            self.lay_cells(things[0])
        elif word == "rows":
            self.begin(flat(self.book, things[0]), self.store_now(), self.boxes_now(), 0)
        elif word == "box":
            self.give_box(things[0], things[1])
        elif word == "leave":
            self.store_now().leave(things[0], things[1], things[2])
        elif word == "back":
            self.machine.back(things[0])
        else:
            self.load(things[0], things[1])

    # A new machine each time, for its log is empty.
    def begin(self, deeds, store, boxes, at):
        self.machine = Watched(deeds, store, boxes, at)

    def lay_cells(self, cells):
        self.store = Store(cells)
        self.boxes = Boxes()
        self.machine = None

    def give_box(self, box, number):
        boxes = self.boxes_now()
        boxes.give(box, number)
        if self.machine is not None:
            self.begin(self.machine.deeds, self.machine.store, boxes, self.machine.at)

    def load(self, state, leaves):
        self.begin(self.machine.deeds, store_of(state[2], leaves), boxes_of(state[1]), state[0])
