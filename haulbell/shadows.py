"""Shadows: where the content of each cell comes from, behind each step of rows that look at no cell for their way."""

from haulbell.deeds import Read
from haulbell.errors import NotBlind, Stop
from haulbell.longs import Match, Seek
from haulbell.machine import Machine, check_rows
from haulbell.store import Store


def looks_for_its_way(deed):
    return isinstance(deed, (Seek, Match, Read))


def is_blind(rows):
    return not any([looks_for_its_way(deed) for deed in rows])


def check_blind(rows):
    for at, deed in enumerate(rows):
        if looks_for_its_way(deed):
            raise NotBlind(at)


# Looks and puts in the store's place, with origins for contents: a blind deed
# puts what it has looked at just as it is, or else a number of the boxes.
class Origins:
    def __init__(self, size):
        self.sources = [("cell", cell) for cell in range(size)]

    def may(self, deed, cell):
        return 0 <= cell < len(self.sources)

    def look(self, cell):
        if not self.may("look", cell):
            raise Stop("look", cell)
        return self.sources[cell]

    def put(self, cell, thing):
        if not self.may("put", cell):
            raise Stop("put", cell)
        self.sources[cell] = thing if isinstance(thing, tuple) else ("number", thing)

    def told(self):
        return list(self.sources)


def shadows(rows, boxes, size):
    check_rows(rows)
    check_blind(rows)
    # The machine's own store is never asked: all steps are done on the origins.
    machine = Machine(rows, Store([0]), boxes)
    origins = Origins(size)
    told = [(boxes.told(), origins.told())]
    while machine.step_on(origins) == "on":
        told.append((machine.boxes.told(), origins.told()))
    return told
