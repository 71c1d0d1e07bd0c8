"""The walker: goes through a block step by step, and tells by paths where it stands."""

from haulbell.book import laid_flat
from haulbell.errors import NoPlace
from haulbell.machine import Machine
from haulbell.wholes import is_whole


def is_path(thing):
    # Number by number, for Python holds (True,) and (1,) for the same.
    return isinstance(thing, tuple) and all([is_whole(number) for number in thing])


def place_of(ways, path):
    if path is None:
        return len(ways)
    if not is_path(path):
        raise NoPlace(path)
    if len(path) == 0:
        return 0
    if path not in ways:
        raise NoPlace(path)
    return ways.index(path)


# Laid flat once, when it is made: so what the book is told later changes nothing,
# and the steps are those of the machine of the deeds laid flat, for it is one.
class Walker:
    def __init__(self, book, block, store, boxes, path):
        pairs = laid_flat(book, block)
        self.ways = [way for way, deed in pairs]
        deeds = [deed for way, deed in pairs]
        self.machine = Machine(deeds, store, boxes, place_of(self.ways, path))

    def where(self):
        if self.machine.ended():
            return None
        return self.ways[self.machine.at]

    def step(self):
        return self.machine.step()

    def run(self, most):
        return self.machine.run(most)

    def why(self):
        told = self.machine.why()
        if told is None:
            return None
        return (self.where(), told[1], told[2])

    def state(self):
        told = self.machine.state()
        return (self.where(), told[1], told[2])

    def leave(self, low, behind, word):
        self.machine.leave(low, behind, word)
