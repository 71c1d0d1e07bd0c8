"""The machine: rows with a deed in each, gone through step by step, on a store and boxes."""

from haulbell.deeds import Deed
from haulbell.errors import NoFit, NoPlace, NoRows, Stop
from haulbell.wholes import is_whole

MOST_ROWS = 24


def check_rows(rows):
    if not isinstance(rows, list) or not 1 <= len(rows) <= MOST_ROWS:
        raise NoRows(-1)
    for at, thing in enumerate(rows):
        if not isinstance(thing, Deed):
            raise NoRows(at)


def check_place(at, many):
    if not is_whole(at) or not 0 <= at <= many:
        raise NoPlace(at)


# A tuple (by, cause), just one of both not None: by how many rows the step
# tells to go on, or why it is refused, as why tells it behind the row.
def tried(deed, boxes, store):
    try:
        return (deed.step(boxes, store), None)
    except Stop as stop:
        return (None, (stop.deed, stop.cell))
    except NoFit as refusal:
        return (None, ("fit", refusal.box))


class Machine:
    def __init__(self, rows, store, boxes, at=0):
        check_rows(rows)
        check_place(at, len(rows))
        self.deeds = list(rows)
        self.store = store.copied()
        self.boxes = boxes.copied()
        self.at = at

    def ended(self):
        return self.at == len(self.deeds)

    # The store is handed in, for a machine may have its steps done through
    # another thing that looks and puts for it.
    def step_on(self, store):
        if self.ended():
            return "end"
        by = tried(self.deeds[self.at], self.boxes, store)[0]
        if by is None:
            return "stop"
        self.at = min(self.at + by, len(self.deeds))
        return "on"

    def step(self):
        return self.step_on(self.store)

    def run(self, most):
        steps = 0
        while steps < most and self.step() == "on":
            steps += 1
        if self.ended():
            return ("end", steps)
        if steps >= most:
            return ("bell", steps)
        return ("stop", steps)

    def why(self):
        if self.ended():
            return None
        # On copies, for a step that can be is done by trying it.
        cause = tried(self.deeds[self.at], self.boxes.copied(), self.store.copied())[1]
        if cause is None:
            return None
        return (self.at, cause[0], cause[1])

    def state(self):
        return (self.at, self.boxes.told(), self.store.told())

    def leaves(self):
        return self.store.leaves()

    def leave(self, low, behind, word):
        self.store.leave(low, behind, word)

    def rows(self):
        return [deed.words() for deed in self.deeds]

    def copied(self):
        return Machine(self.deeds, self.store, self.boxes, self.at)
