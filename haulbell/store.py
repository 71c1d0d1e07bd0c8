"""The store: cells with contents, each with a leave that tells what may be done with it."""

from haulbell.errors import NoLeave, NoStore, Stop
from haulbell.wholes import is_content, is_whole

MOST_CELLS = 60
LEAVES = ("open", "look", "shut")


def check_cells(cells):
    if not isinstance(cells, list) or not 1 <= len(cells) <= MOST_CELLS:
        raise NoStore(-1)
    for at, thing in enumerate(cells):
        if not is_content(thing):
            raise NoStore(at)


def is_leave(word):
    return isinstance(word, str) and word in LEAVES


def is_within(low, behind, size):
    return is_whole(low) and is_whole(behind) and 0 <= low <= behind <= size


class Store:
    def __init__(self, cells):
        check_cells(cells)
        self.contents = list(cells)
        self.permits = ["open"] * len(cells)

    def size(self):
        return len(self.contents)

    def told(self):
        return list(self.contents)

    def leaves(self):
        return list(self.permits)

    def leave(self, low, behind, word):
        if not is_within(low, behind, self.size()) or not is_leave(word):
            raise NoLeave(low, behind, word)
        for cell in range(low, behind):
            self.permits[cell] = word

    def may(self, deed, cell):
        # Asked first, for Python counts numbers below 0 from a list's end.
        if not 0 <= cell < self.size():
            return False
        if self.permits[cell] == "look":
            return deed == "look"
        return self.permits[cell] == "open"

    def look(self, cell):
        if not self.may("look", cell):
            raise Stop("look", cell)
        return self.contents[cell]

    def put(self, cell, content):
        if not self.may("put", cell):
            raise Stop("put", cell)
        self.contents[cell] = content

    # Whatever the leave is: what is taken back was let when it was put.
    def restore(self, cell, content):
        self.contents[cell] = content

    def copied(self):
        # The contents were asked when they came, and are not asked again.
        other = Store([0])
        other.contents = list(self.contents)
        other.permits = list(self.permits)
        return other
