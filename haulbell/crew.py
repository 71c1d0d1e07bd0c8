"""The crew: several machines side by side, each on its part of one floor."""

from haulbell.errors import NoMember
from haulbell.machine import Machine
from haulbell.parts import parts_of
from haulbell.store import Store
from haulbell.stretches import shared
from haulbell.wholes import is_whole


def machine_on(cells, part, member):
    return Machine(member[2], Store(cells[part[0]:part[1]]), member[3])


# Each machine has its part's cells in a store of its own: no two parts share a
# cell, so no machine could see from the floor what it doesn't see there. The
# ground keeps the cells that lie in no part, and what lies in one is not asked of it.
class Crew:
    def __init__(self, cells, members):
        self.ground = Store(cells)
        self.parts = parts_of(members, self.ground.size())
        self.machines = [machine_on(cells, part, member) for part, member in zip(self.parts, members)]

    def check_member(self, k):
        if not is_whole(k) or not 0 <= k < len(self.machines):
            raise NoMember(k)

    def machine_of(self, k):
        self.check_member(k)
        return self.machines[k]

    def step(self, k):
        return self.machine_of(k).step()

    def run(self, k, most):
        return self.machine_of(k).run(most)

    def why(self, k):
        return self.machine_of(k).why()

    def state(self, k):
        return self.machine_of(k).state()

    def go(self, order):
        # All of them ahead of the first step, for steps could not be taken back.
        for k in order:
            self.check_member(k)
        return [self.step(k) for k in order]

    def floor(self):
        cells = self.ground.told()
        for part, machine in zip(self.parts, self.machines):
            cells = cells[:part[0]] + machine.state()[2] + cells[part[1]:]
        return cells

    def leave(self, low, behind, word):
        # The ground first, for it refuses what is no leave of the floor.
        self.ground.leave(low, behind, word)
        for part, machine in zip(self.parts, self.machines):
            both = shared((low, behind), part)
            if both is not None:
                machine.leave(both[0] - part[0], both[1] - part[0], word)
