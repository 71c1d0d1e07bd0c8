"""The watched machine: a machine that keeps a log of its steps, and goes back by it."""

from haulbell.boxes import boxes_of
from haulbell.errors import NoBack
from haulbell.machine import Machine
from haulbell.wholes import is_whole


# Looks and puts for one step in the store's place, and keeps what was put. No
# step puts a cell twice, so what it had ahead of the step is what it had before.
class Noted:
    def __init__(self, store):
        self.store = store
        self.before = store.told()
        self.changes = []

    def may(self, deed, cell):
        return self.store.may(deed, cell)

    def look(self, cell):
        return self.store.look(cell)

    def put(self, cell, content):
        self.store.put(cell, content)
        self.changes.append((cell, self.before[cell], content))


class Watched(Machine):
    def __init__(self, rows, store, boxes, at=0):
        Machine.__init__(self, rows, store, boxes, at)
        self.entries = []

    def step(self):
        row = self.at
        ahead = self.boxes.told()
        noted = Noted(self.store)
        word = self.step_on(noted)
        if word == "on":
            self.entries.append((row, ahead, noted.changes))
        return word

    def log(self):
        return [(row, boxes, list(changes)) for row, boxes, changes in self.entries]

    def back(self, many):
        if not is_whole(many) or not 0 <= many <= len(self.entries):
            raise NoBack(many)
        for turn in range(many):
            self.undo(self.entries.pop())

    def undo(self, entry):
        for change in entry[2]:
            self.store.restore(change[0], change[1])
        self.boxes = boxes_of(entry[1])
        self.at = entry[0]

    def copied(self):
        other = Watched(self.deeds, self.store, self.boxes, self.at)
        other.entries = self.log()
        return other
