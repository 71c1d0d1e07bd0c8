import itertools
import random
import unittest

from haulbell.book import Book
from haulbell.boxes import Boxes
from haulbell.crew import Crew
from haulbell.deeds import Read, Set, Write
from haulbell.errors import NoLeave, NoMember, NoPart, NoRows, NoStore
from haulbell.hops import Hop
from haulbell.items import Do
from haulbell.longs import Copy, Fill, Match, Seek, Shift, Turn
from haulbell.machine import Machine
from haulbell.store import Store
from helper import BIG, LEAVES, boxes_by, deed_of, no_texts, no_wholes, refused, store_of

AT_FIRST = (0, 0, 0, 1, 0, 0)
FLOOR = [10, 11, 12, 13, 14, 15, 16, 17]


def member(low, behind, rows=None, boxes=None):
    return (low, behind, [Fill()] if rows is None else rows, Boxes() if boxes is None else boxes)


def everything(crew, many):
    return crew.floor(), [(crew.state(k), crew.why(k)) for k in range(many)]


class Made(unittest.TestCase):
    def no_part(self, at, members, cells=FLOOR):
        with self.subTest(repr(members)):
            self.assertEqual(refused(self, NoPart, Crew, cells, members).at, at)

    def test_one_to_four_members(self):
        for many in range(1, 5):
            members = [member(2 * k, 2 * k + 2, [Copy()], Boxes(k, 0, 0, 1, k)) for k in range(many)]
            crew = Crew(FLOOR, members)
            for k in range(many):
                self.assertEqual(crew.state(k), (0, (k, 0, 0, 1, k, 0), FLOOR[2 * k:2 * k + 2]))
                self.assertIsNone(crew.why(k))
            self.assertEqual(crew.floor(), FLOOR)

    def test_a_floor_of_one_and_of_sixty_cells(self):
        self.assertEqual(Crew([7], [member(0, 1)]).state(0), (0, AT_FIRST, [7]))
        floor = list(range(60))
        crew = Crew(floor, [member(0, 60)])
        self.assertEqual((crew.floor(), crew.state(0)[2]), (floor, floor))
        crew = Crew(floor, [member(59, 60), member(0, 1)])
        self.assertEqual((crew.floor(), crew.state(0)[2], crew.state(1)[2]), (floor, [59], [0]))

    def test_no_store(self):
        bad = [thing for thing in no_wholes() if not isinstance(thing, list)]
        bad += [0, BIG, Store([1]), (1, 2), [], [0] * 61]
        for members in ([member(0, 1)], None, [], [None], [member(5, 3)], [member(0, 1, [])], "members"):
            for cells in bad:
                self.assertEqual(refused(self, NoStore, Crew, cells, members).at, -1)
            for at, thing in itertools.product((0, 1, 3), no_wholes() + [-1, 10 ** 9 + 1, BIG]):
                cells = [1, 2, 3, 4]
                cells[at] = thing
                self.assertEqual(refused(self, NoStore, Crew, cells, members).at, at)

    def test_what_is_no_list_of_one_to_four_things(self):
        things = [thing for thing in no_wholes() if not isinstance(thing, list)] + [0, 4, BIG, Store([1]), Book()]
        things += [member(0, 1), (member(0, 1),), {0: member(0, 1)}, [], [member(k, k + 1) for k in range(5)]]
        for members in things + [[member(0, 1)] * 300]:
            self.no_part(-1, members)

    def test_lists_of_what_is_no_tuple_of_four_things(self):
        good = member(0, 1)
        others = no_wholes() + [0, BIG, Store([1]), list(good), good[:3], good + (0,), (), [good], (good,)]
        for thing, many in itertools.product(others, range(1, 5)):
            for at in range(many):
                members = [member(k, k + 1) for k in range(many)]
                members[at] = thing
                self.no_part(-1, members)

    def test_a_list_of_tuples_goes_ahead_of_the_parts(self):
        for first in (member(5, 3), member(None, 1), member(0, 9), member(0, 1, None, None)):
            self.no_part(-1, [first, None])
            self.no_part(-1, [first, (0, 1, [Fill()])])
            self.no_part(-1, [first] * 5)

    def test_parts_that_are_none(self):
        for low, behind in [(-1, 2), (-1, -1), (0, 9), (8, 9), (8, 8), (0, 0), (3, 3), (3, 2), (5, 0), (7, BIG),
                            (BIG, BIG), (-BIG, 1), (-BIG, BIG), (9, 12)]:
            self.no_part(0, [member(low, behind)])
            self.no_part(1, [member(7, 8), member(low, behind)])

    def test_ends_of_another_kind(self):
        for thing in no_wholes():
            for bad in (member(thing, 3), member(0, thing), member(thing, thing), member(thing, 1), member(0, thing)):
                self.no_part(0, [bad])
                self.no_part(0, [bad, member(4, 5)])
                self.no_part(2, [member(4, 5), member(5, 7), bad, bad])

    def test_parts_that_share_a_cell(self):
        for one, other in itertools.product(itertools.combinations(range(9), 2), repeat=2):
            if max(one[0], other[0]) < min(one[1], other[1]):
                self.no_part(1, [member(*one), member(*other)])
            else:
                crew = Crew(FLOOR, [member(*one), member(*other)])
                self.assertEqual([crew.state(k)[2] for k in (0, 1)], [FLOOR[one[0]:one[1]], FLOOR[other[0]:other[1]]])

    def test_sharing_with_any_earlier_member(self):
        self.no_part(2, [member(0, 2), member(4, 6), member(1, 3), member(6, 7)])
        self.no_part(2, [member(0, 2), member(4, 6), member(2, 5), member(6, 7)])
        self.no_part(3, [member(0, 2), member(4, 6), member(2, 4), member(0, 8)])
        self.no_part(3, [member(6, 8), member(4, 6), member(2, 4), member(7, 8)])

    def test_of_several_the_first_one(self):
        self.no_part(0, [member(3, 3), member(3, 3)])
        self.no_part(1, [member(0, 3), member(2, 4), member(None, None)])
        self.no_part(1, [member(0, 3), member(True, 4), member(0, 3)])

    def test_parts_go_ahead_of_rows(self):
        for rows in ([], None, [None], "copy"):
            self.no_part(0, [(3, 3, rows, Boxes())])
            self.no_part(1, [(0, 3, rows, Boxes()), member(2, 4)])

    def test_no_rows(self):
        bad = [(thing, -1) for thing in no_wholes() if not isinstance(thing, list)]
        bad += [([], -1), ([Copy()] * 25, -1), ((Copy(),), -1), ("copy", -1), ([None], 0), ([Copy(), Do("a")], 1),
                ([Copy(), Fill(), True, None], 2), ([Copy()] * 23 + [Copy], 23)]
        for rows, at in bad:
            with self.subTest(repr(rows)):
                self.assertEqual(refused(self, NoRows, Crew, FLOOR, [member(0, 1), (1, 2, rows, Boxes())]).at, at)
                self.assertEqual(refused(self, NoRows, Crew, FLOOR, [(1, 2, rows, Boxes()), member(0, 1)]).at, at)

    def test_no_rows_of_the_first_such_member(self):
        members = [member(0, 1), member(1, 2, [Copy(), 5]), member(2, 3, []), member(3, 4, [None])]
        self.assertEqual(refused(self, NoRows, Crew, FLOOR, members).at, 1)
        members[1] = member(1, 2)
        self.assertEqual(refused(self, NoRows, Crew, FLOOR, members).at, -1)
        members[2] = member(2, 3)
        self.assertEqual(refused(self, NoRows, Crew, FLOOR, members).at, 0)
        members[3] = member(3, 4)
        self.assertEqual(Crew(FLOOR, members).state(3)[2], [13])

    def test_made_good_it_is_taken(self):
        cells, rows = [1, None, 3], [Copy(), None]
        members = [member(0, 2, rows), member(1, 3)]
        self.assertEqual(refused(self, NoStore, Crew, cells, members).at, 1)
        cells[1] = 2
        self.assertEqual(refused(self, NoPart, Crew, cells, members).at, 1)
        members[1] = member(2, 3)
        self.assertEqual(refused(self, NoRows, Crew, cells, members).at, 1)
        self.assertEqual((cells, len(members), rows[1]), ([1, 2, 3], 2, None))
        rows[1] = Fill()
        self.assertEqual(Crew(cells, members).state(0)[2], [1, 2])

    def test_the_crew_is_free_of_what_was_handed_in(self):
        cells, rows, boxes = [1, 2, 3, 4], [Set("sign", 5), Write("sign")], Boxes()
        members = [(1, 3, rows, boxes), (3, 4, rows, boxes)]
        crew = Crew(cells, members)
        cells[0] = cells[1] = 9
        cells.append(4)
        rows[0] = Turn()
        rows.append(Copy())
        boxes.give("there", 1)
        members.pop()
        self.assertEqual(crew.floor(), [1, 2, 3, 4])
        self.assertEqual((crew.state(0), crew.state(1)), ((0, AT_FIRST, [2, 3]), (0, AT_FIRST, [4])))
        self.assertEqual((crew.run(0, 9), crew.run(1, 1)), (("end", 2), ("bell", 1)))
        self.assertEqual(crew.floor(), [1, 5, 3, 4])

    def test_what_was_handed_in_is_free_of_the_crew(self):
        cells, rows, boxes = [1, 2, 3, 4], [Set("sign", 5), Write("sign")], Boxes()
        members = [(1, 3, rows, boxes), (3, 4, rows, boxes)]
        kept = list(members), list(rows)
        crew, order = Crew(cells, members), [0, 1, 1, 0]
        crew.go(order)
        crew.leave(0, 4, "shut")
        self.assertEqual((cells, boxes.told(), order), ([1, 2, 3, 4], AT_FIRST, [0, 1, 1, 0]))
        self.assertEqual((members, rows), kept)


class Asked(unittest.TestCase):
    def crew(self):
        return Crew(FLOOR, [
            member(1, 3, [Set("left", 3), Fill()], Boxes(0, 0, 0, 1, 5)),
            member(3, 6, [Set("left", 3), Copy(), Read("sign")], Boxes(0, 1)),
            member(7, 8, [Write("left"), Hop(24)], Boxes(0, 0, 4))])

    def test_step(self):
        crew = self.crew()
        self.assertEqual([crew.step(k) for k in (0, 2, 2, 2, 0, 0, 0, 1)],
                         ["on", "on", "on", "end", "on", "on", "stop", "on"])
        self.assertEqual(crew.floor(), [10, 5, 5, 13, 14, 15, 16, 4])
        self.assertEqual(crew.state(0), (1, (0, 2, 1, 1, 5, 0), [5, 5]))
        self.assertEqual(crew.state(1), (1, (0, 1, 3, 1, 0, 0), [13, 14, 15]))
        self.assertEqual(crew.state(2), (2, (0, 0, 4, 1, 0, 0), [4]))

    def test_run(self):
        crew = self.crew()
        self.assertEqual(crew.run(0, 0), ("bell", 0))
        self.assertEqual(crew.run(0, 2), ("bell", 2))
        self.assertEqual(crew.run(1, 10 ** 6), ("stop", 3))
        self.assertEqual(crew.run(0, 9), ("stop", 1))
        self.assertEqual(crew.run(2, 2), ("end", 2))
        self.assertEqual(crew.floor(), [10, 5, 5, 13, 13, 13, 16, 4])

    def test_why(self):
        crew = self.crew()
        self.assertEqual([crew.why(k) for k in range(3)], [None] * 3)
        for k in range(3):
            crew.run(k, 99)
        self.assertEqual([crew.why(k) for k in range(3)], [(1, "put", 2), (1, "put", 3), None])

    def test_go(self):
        crew = self.crew()
        told = crew.go([0, 1, 2, 0, 2, 2, 0, 0])
        self.assertEqual(told, ["on", "on", "on", "on", "on", "end", "on", "stop"])
        self.assertIs(type(told), list)
        self.assertEqual(crew.floor(), [10, 5, 5, 13, 14, 15, 16, 4])

    def test_go_of_none(self):
        crew = self.crew()
        before = everything(crew, 3)
        self.assertEqual(crew.go([]), [])
        self.assertEqual(everything(crew, 3), before)

    def test_go_of_three_hundred(self):
        crew = Crew([0, 0], [member(0, 1, [Hop(0)] * 24), member(1, 2, [Hop(0)] * 24)])
        self.assertEqual(crew.go([0, 1] * 150), ["on"] * 48 + ["end"] * 252)

    def test_no_member(self):
        crew = self.crew()
        crew.go([0, 0, 1])
        before = everything(crew, 3)
        for k in no_wholes() + [-1, -2, -3, -4, 3, 4, BIG, -BIG, Store([1]), Boxes(), crew, (0,), [0]]:
            with self.subTest(repr(k)):
                for call in (crew.step, crew.why, crew.state):
                    self.assertIs(refused(self, NoMember, call, k).k, k)
                self.assertIs(refused(self, NoMember, crew.run, k, 3).k, k)
                for order in ([k], [0, k], [0, 1, 2, k, 0], [k, 0, -1, None], [2, k, "0"]):
                    self.assertIs(refused(self, NoMember, crew.go, order).k, k)
        self.assertEqual(everything(crew, 3), before)
        self.assertEqual(crew.go([0, 1, 2]), ["on"] * 3)

    def test_no_member_by_the_number_of_members(self):
        for many in range(1, 5):
            crew = Crew(FLOOR, [member(k, k + 1) for k in range(many)])
            self.assertEqual(crew.step(many - 1), "on")
            for k in (many, -1, -many):
                self.assertEqual(refused(self, NoMember, crew.step, k).k, k)

    def test_cells_outside_of_the_part_are_no_cells(self):
        for low, behind in ((0, 3), (3, 5), (5, 8)):
            size = behind - low
            for cell in [-8, -2, -1] + list(range(size)) + [size, size + 1, 8, 10 ** 9, -10 ** 9]:
                for deed, word, boxes in (
                        (Write("sign"), "put", (0, cell, 0, 1, 5, 0)), (Read("sign"), "look", (cell, 0, 0, 1, 5, 0)),
                        (Fill(), "put", (0, cell, 1, -1, 5, 0)), (Seek(), "look", (cell, 0, 1, 1, 5, 0)),
                        (Match(), "look", (0, cell, 1, 1, 5, 0)), (Shift(), "put", (0, cell, 1, 1, 5, 0)),
                        (Copy(), "look", (cell, 0, 1, 1, 5, 0))):
                    crew = Crew(FLOOR, [member(*part) for part in ((0, 3), (3, 5), (5, 8)) if part != (low, behind)]
                                + [member(low, behind, [deed], Boxes(*boxes))])
                    inside = 0 <= cell < size
                    self.assertEqual(crew.why(2), None if inside else (0, word, cell))
                    self.assertEqual(crew.step(2), "on" if inside else "stop")
                    outside = crew.floor()[:low] + crew.floor()[behind:]
                    self.assertEqual(outside, FLOOR[:low] + FLOOR[behind:])
                    if not inside:
                        self.assertEqual(crew.floor(), FLOOR)

    def test_leaves_over_several_parts(self):
        for low, behind in itertools.combinations_with_replacement(range(9), 2):
            for word in LEAVES:
                parts = ((1, 3), (3, 6), (7, 8))
                crew = Crew(FLOOR, [member(*part) for part in parts])
                self.assertIsNone(crew.leave(0, 8, "look"))
                self.assertIsNone(crew.leave(low, behind, word))
                leaves = [word if low <= cell < behind else "look" for cell in range(8)]
                for k, part in enumerate(parts):
                    cells = FLOOR[part[0]:part[1]]
                    for cell in range(part[1] - part[0]):
                        for deed, does in ((Read("sign"), "look"), (Write("sign"), "put")):
                            members = [member(*other) for other in parts]
                            members[k] = member(part[0], part[1], [deed], Boxes(cell, cell))
                            crew = Crew(FLOOR, members)
                            crew.leave(0, 8, "look")
                            crew.leave(low, behind, word)
                            alone = Machine([deed], store_of(cells, leaves[part[0]:part[1]]), Boxes(cell, cell))
                            self.assertEqual((crew.why(k), crew.step(k), crew.state(k)),
                                             (alone.why(), alone.step(), alone.state()))

    def test_a_stop_by_a_leave_is_gone_on_from(self):
        crew = Crew(FLOOR, [member(0, 2), member(2, 6, [Set("left", 4), Fill()], Boxes(0, 0, 0, 1, 5))])
        crew.leave(3, 5, "shut")
        self.assertEqual((crew.run(1, 9), crew.why(1)), (("stop", 2), (1, "put", 1)))
        crew.leave(0, 4, "open")
        self.assertEqual((crew.run(1, 9), crew.why(1)), (("stop", 1), (1, "put", 2)))
        crew.leave(4, 8, "open")
        self.assertEqual((crew.run(1, 9), crew.floor()), (("end", 2), [10, 11, 5, 5, 5, 5, 16, 17]))

    def test_no_leave(self):
        crew = self.crew()
        crew.leave(0, 8, "look")
        before = everything(crew, 3)
        spoilt = [(thing, 2, "open") for thing in no_wholes() + [-1, 3, 9, BIG, -BIG]]
        spoilt += [(1, thing, "open") for thing in no_wholes() + [-1, 0, 9, BIG, -BIG]]
        spoilt += [(0, 8, thing) for thing in no_texts() + ["", "Open", "open ", "put"]]
        spoilt += [(8, 9, "open"), (9, 9, "open"), (-1, -1, "open")]
        for things in spoilt:
            made = refused(self, NoLeave, crew.leave, *things)
            self.assertTrue(made.low is things[0] and made.behind is things[1] and made.word is things[2])
        self.assertEqual(everything(crew, 3), before)
        self.assertEqual((crew.step(2), crew.why(2)), ("stop", (0, "put", 0)))
        for low in (0, 5, 8):
            crew.leave(low, low, "shut")
        self.assertEqual(everything(crew, 3), before)

    def test_told_lists_changed_behind_the_call(self):
        crew = self.crew()
        told = crew.go([0, 1, 2])
        kept = everything(crew, 3)
        told.clear()
        crew.floor().clear()
        crew.floor()[1] = 99
        for k in range(3):
            crew.state(k)[2][0] = 99
            crew.state(k)[2].append(1)
        self.assertEqual(everything(crew, 3), kept)
        floor, state = crew.floor(), crew.state(0)
        crew.run(0, 99)
        self.assertEqual((floor, state), (kept[0], kept[1][0][0]))
        self.assertEqual([type(thing) for thing in (floor, state, state[1], state[2])], [list, tuple, tuple, list])


def crew_things(chance):
    """A floor, leaves for it, and members; the parts in no order, some side by side, some cells in none."""
    size = chance.choice([4, 9, 20, 60])
    many = chance.randrange(1, 5)
    ends = sorted(chance.sample(range(size + 1), min(2 * many, size + 1) // 2 * 2))
    parts = list(zip(ends[::2], ends[1::2]))
    if chance.randrange(2):
        parts = list(zip(ends, ends[1:]))[:4]
    chance.shuffle(parts)
    floor = [chance.randrange(4) for cell in range(size)]
    members = [(low, behind, [deed_of(chance) for row in range(chance.choice([1, 3, 12, 24]))], boxes_by(chance))
               for low, behind in parts]
    leaves = [chance.choice(LEAVES) if chance.randrange(8) == 0 else "open" for cell in range(size)]
    return floor, leaves, members


def crew_of(floor, leaves, members):
    crew = Crew(floor, members)
    for cell, word in enumerate(leaves):
        crew.leave(cell, cell + 1, word)
    return crew


def alone(floor, leaves, members):
    return [Machine(rows, store_of(floor[low:behind], leaves[low:behind]), boxes)
            for low, behind, rows, boxes in members]


class AgainstMachinesAlone(unittest.TestCase):
    def same(self, crew, floor, machines, members):
        for k, machine in enumerate(machines):
            self.assertEqual((crew.state(k), crew.why(k)), (machine.state(), machine.why()))
        cells = list(floor)
        for machine, (low, behind, rows, boxes) in zip(machines, members):
            cells[low:behind] = machine.state()[2]
        self.assertEqual(crew.floor(), cells)

    def test_step_by_step_in_any_order(self):
        for seed in range(120):
            chance = random.Random(seed)
            floor, leaves, members = crew_things(chance)
            crew, machines = crew_of(floor, leaves, members), alone(floor, leaves, members)
            for turn in range(60):
                k = chance.randrange(len(members))
                self.assertEqual(crew.step(k), machines[k].step())
                self.same(crew, floor, machines, members)

    def test_runs_and_leaves(self):
        for seed in range(200):
            chance = random.Random(seed)
            floor, leaves, members = crew_things(chance)
            crew, machines = crew_of(floor, leaves, members), alone(floor, leaves, members)
            for turn in range(20):
                k, most = chance.randrange(len(members)), chance.choice([0, 1, 3, 10, 10 ** 6])
                self.assertEqual(crew.run(k, most), machines[k].run(most))
                low, behind = sorted(chance.choices(range(len(floor) + 1), k=2))
                word = chance.choice(LEAVES + ["open"] * 3)
                crew.leave(low, behind, word)
                for machine, (first, last, rows, boxes) in zip(machines, members):
                    for cell in range(max(low, first), min(behind, last)):
                        machine.leave(cell - first, cell - first + 1, word)
                self.same(crew, floor, machines, members)

    def test_two_orders_leave_the_same(self):
        for seed in range(120):
            chance = random.Random(seed)
            floor, leaves, members = crew_things(chance)
            order = [chance.randrange(len(members)) for turn in range(chance.choice([0, 5, 40, 200]))]
            machines = alone(floor, leaves, members)
            words = [machines[k].step() for k in order]
            one, other, third = [crew_of(floor, leaves, members) for turn in range(3)]
            self.assertEqual(one.go(order), words)
            mixed = chance.sample(order, len(order))
            other.go(mixed)
            for k in range(len(members)):
                third.run(k, order.count(k))
            for crew in (one, other, third):
                self.same(crew, floor, machines, members)

    def test_two_crews_know_nothing_of_one_another(self):
        floor, leaves, members = crew_things(random.Random(5))
        one, other = Crew(floor, members), Crew(floor, members)
        kept = everything(other, len(members))
        for k in range(len(members)):
            one.run(k, 99)
        one.leave(0, len(floor), "shut")
        self.assertEqual(everything(other, len(members)), kept)
        twin = Crew(floor, members)
        for crew in (other, twin):
            crew.go(list(range(len(members))) * 20)
        self.assertEqual(everything(other, len(members)), everything(twin, len(members)))


if __name__ == "__main__":
    unittest.main()
