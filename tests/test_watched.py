import random
import unittest

import test_machine
from haulbell.boxes import Boxes
from haulbell.deeds import Add, Read, Set, Take, Write
from haulbell.errors import NoBack, NoPlace, NoRows
from haulbell.hops import Hop
from haulbell.items import Do, Times, When
from haulbell.longs import Copy, Fill, Match, Seek, Shift, Turn
from haulbell.machine import Machine
from haulbell.store import Store
from haulbell.watched import Watched
from helper import BIG, log_model, machine_things, no_wholes, refused, store_of

AT_FIRST = (0, 0, 0, 1, 0, 0)


class Made(test_machine.Made):
    kind = Watched

    def test_it_stands_under_machine(self):
        self.assertTrue(issubclass(Watched, Machine))
        self.assertIsInstance(self.machine([Copy()]), Machine)

    def test_items_are_no_rows(self):
        for kind in (Machine, Watched):
            for item in (Do("a"), Times(2, [Copy()]), When(1, [Copy()], [Fill()])):
                for many, at in ((1, 0), (5, 3), (24, 23)):
                    rows = [Fill()] * many
                    rows[at] = item
                    self.assertEqual(refused(self, NoRows, kind, rows, Store([1]), Boxes(), 99).at, at)
                    rows[at] = Copy()
                    self.assertEqual(refused(self, NoPlace, kind, rows, Store([1]), Boxes(), 99).at, 99)

    def test_its_log_is_empty(self):
        for at in (0, 1, 2):
            self.assertEqual(self.machine([Copy(), Fill()], at=at).log(), [])


class Steps(test_machine.Steps):
    kind = Watched


class Why(test_machine.Why):
    kind = Watched


class Run(test_machine.Run):
    kind = Watched


class AgainstTheModel(test_machine.AgainstTheModel):
    kind = Watched

    def test_log(self):
        for seed in range(400):
            chance = random.Random(seed)
            rows, store, boxes = machine_things(chance)
            words, at = [deed.words() for deed in rows], chance.choice([0, 0, len(rows) // 2])
            for most in (0, 1, 4, 10 ** 6):
                machine = Watched(rows, store, boxes, at)
                machine.run(most)
                log, states = log_model(words, (at, boxes.told(), store.told()), store.leaves(), most)
                self.assertEqual((machine.log(), machine.state()), (log, states[-1]), (seed, most))

    def test_back_to_every_state(self):
        for seed in range(150):
            rows, store, boxes = machine_things(random.Random(seed))
            words = [deed.words() for deed in rows]
            log, states = log_model(words, (0, boxes.told(), store.told()), store.leaves(), 10 ** 6)
            for many in range(len(log) + 1):
                machine = Watched(rows, store, boxes)
                machine.run(10 ** 6)
                ended, why = machine.state(), machine.why()
                self.assertIsNone(machine.back(many))
                left = len(log) - many
                self.assertEqual((machine.state(), machine.log()), (states[left], log[:left]))
                self.assertEqual(machine.leaves(), store.leaves())
                self.assertEqual(machine.run(10 ** 6)[1], many)
                self.assertEqual((machine.state(), machine.log(), machine.why()), (ended, log, why))

    def test_back_by_parts_and_at_once(self):
        for seed in range(150):
            chance = random.Random(seed)
            rows, store, boxes = machine_things(chance)
            one, other = Watched(rows, store, boxes), Watched(rows, store, boxes)
            steps = one.run(10 ** 6)[1]
            other.run(10 ** 6)
            parts = []
            while sum(parts) < steps and len(parts) < 5:
                parts.append(chance.randrange(steps - sum(parts) + 1))
            for part in parts:
                one.back(part)
            other.back(sum(parts))
            self.assertEqual((one.state(), one.log(), one.leaves()), (other.state(), other.log(), other.leaves()))


class Told(test_machine.Told):
    kind = Watched


class Copied(test_machine.Copied):
    kind = Watched

    def test_the_same_log(self):
        machine = self.machine([Set("left", 2), Fill(), Write("left")], numbers=(0, 0, 0, 1, 5, 0))
        machine.run(2)
        other = machine.copied()
        kept = machine.log()
        self.assertEqual(other.log(), kept)
        other.run(9)
        self.assertEqual((machine.log(), len(other.log())), (kept, 4))
        other.back(4)
        self.assertEqual((machine.log(), other.state()), (kept, (0, (0, 0, 0, 1, 5, 0), [7, 8, 9])))
        machine.back(1)
        other.run(3)
        self.assertEqual((len(machine.log()), len(other.log())), (1, 3))


class Log(unittest.TestCase):
    def logs(self, deed, numbers, cells, log, most=100, at=0):
        machine = Watched([deed] * (at + 1), Store(cells), Boxes(*numbers), at)
        machine.run(most)
        self.assertEqual(machine.log(), log)
        for entry in machine.log():
            self.assertEqual([type(thing) for thing in entry], [int, tuple, list])
            self.assertIs(type(entry), tuple)
            self.assertTrue(all(type(change) is tuple for change in entry[2]))

    def test_short_deeds(self):
        for deed in (Set("left", 3), Add("here", 1), Take("left", "here"), Read("sign"), Hop(0), Hop(24), Hop(1, 0)):
            self.logs(deed, (1, 2, 3, -1, 4, 1), [7, 8, 9], [(2, (1, 2, 3, -1, 4, 1), [])], 100, 2)
        self.logs(Write("sign"), (1, 2, 3, -1, 4, 1), [7, 8, 9], [(0, (1, 2, 3, -1, 4, 1), [(2, 9, 4)])])
        self.logs(Write("sign"), (1, 2, 3, -1, 9, 1), [7, 8, 9], [(0, (1, 2, 3, -1, 9, 1), [(2, 9, 9)])])

    def test_copy(self):
        self.logs(Copy(), (0, 1, 2, 1, 0, 0), [7, 8, 9], [
            (0, (0, 1, 2, 1, 0, 0), [(1, 8, 7)]), (0, (1, 2, 1, 1, 0, 0), [(2, 9, 7)])])
        self.logs(Copy(), (2, 2, 2, -1, 0, 0), [7, 8, 9], [
            (0, (2, 2, 2, -1, 0, 0), [(2, 9, 9)]), (0, (1, 1, 1, -1, 0, 0), [(1, 8, 8)])])

    def test_fill(self):
        self.logs(Fill(), (9, 1, 2, -1, 8, 0), [7, 8, 9], [
            (0, (9, 1, 2, -1, 8, 0), [(1, 8, 8)]), (0, (9, 0, 1, -1, 8, 0), [(0, 7, 8)])])

    def test_seek_and_match_put_nothing(self):
        self.logs(Seek(), (0, 5, 3, 1, 8, 0), [7, 8, 9], [(0, (0, 5, 3, 1, 8, 0), []), (0, (1, 5, 2, 1, 8, 0), [])])
        self.logs(Match(), (0, 2, 1, 1, 8, 0), [7, 8, 7], [(0, (0, 2, 1, 1, 8, 0), [])])

    def test_shift(self):
        self.logs(Shift(), (0, 1, 2, 1, 0, 0), [7, 8, 9], [
            (0, (0, 1, 2, 1, 0, 0), [(2, 9, 8)]), (0, (0, 1, 1, 1, 0, 0), [(1, 8, 7)])])
        self.logs(Shift(), (1, 0, 2, 1, 0, 0), [7, 8, 9], [
            (0, (1, 0, 2, 1, 0, 0), [(0, 7, 8)]), (0, (2, 1, 1, 1, 0, 0), [(1, 8, 9)])])

    def test_turn(self):
        self.logs(Turn(), (1, 0, 1, 1, 0, 0), [7, 8, 9], [(0, (1, 0, 1, 1, 0, 0), [])])
        self.logs(Turn(), (0, 0, 3, 1, 0, 0), [7, 8, 9], [
            (0, (0, 0, 3, 1, 0, 0), [(0, 7, 9), (2, 9, 7)]), (0, (1, 0, 1, 1, 0, 0), [])])
        self.logs(Turn(), (0, 0, 4, 1, 0, 0), [7, 8, 8, 9], [
            (0, (0, 0, 4, 1, 0, 0), [(0, 7, 9), (3, 9, 7)]), (0, (1, 0, 2, 1, 0, 0), [(1, 8, 8), (2, 8, 8)])])

    def test_long_deeds_of_left_0(self):
        for deed in (Copy(), Fill(), Seek(), Match(), Shift(), Turn()):
            self.logs(deed, (0, 1, 0, 1, 8, 1), [7, 8, 9], [(0, (0, 1, 0, 1, 8, 1), [])])

    def test_no_entry_for_a_step_that_is_refused_or_at_the_end(self):
        for deed, numbers, leaves, why in test_machine.STOPS:
            machine = Watched([Hop(0), deed], store_of([7, 8, 9], leaves), Boxes(*numbers))
            self.assertEqual([machine.step() for turn in range(4)], ["on", "stop", "stop", "stop"])
            self.assertEqual(machine.why(), why)
            self.assertEqual(machine.log(), [(0, numbers, [])])
        machine = Watched([Hop(0)], Store([7]), Boxes())
        self.assertEqual([machine.step() for turn in range(4)], ["on", "end", "end", "end"])
        self.assertEqual(machine.log(), [(0, AT_FIRST, [])])

    def test_asking_is_not_logged(self):
        machine = Watched([Write("sign")], Store([7]), Boxes())
        machine.why(), machine.state(), machine.leaves(), machine.rows(), machine.copied().run(5), machine.run(0)
        machine.leave(0, 1, "look")
        self.assertEqual(machine.log(), [])

    def test_told_logs_are_free_of_the_machine(self):
        machine = Watched([Turn(), Write("sign")], Store([7, 8, 9]), Boxes(0, 1, 2))
        machine.run(5)
        kept = [(0, (0, 1, 2, 1, 0, 0), [(0, 7, 8), (1, 8, 7)]), (1, (1, 1, 0, 1, 0, 0), [(1, 7, 0)])]
        self.assertEqual(machine.log(), kept)
        told = machine.log()
        told[0][2].clear()
        told[1][2][0] = (0, 5, 6)
        told.pop()
        told = machine.log()
        told.append((0, AT_FIRST, []))
        self.assertEqual(machine.log(), kept)
        machine.back(2)
        self.assertEqual(machine.state(), (0, (0, 1, 2, 1, 0, 0), [7, 8, 9]))

    def test_what_was_told_stays(self):
        machine = Watched([Set("left", 2), Turn()], Store([7, 8, 9]), Boxes())
        machine.run(1)
        told = machine.log()
        machine.run(1)
        machine.back(2)
        self.assertEqual(told, [(0, AT_FIRST, [])])


class Back(unittest.TestCase):
    def gone(self):
        machine = Watched([Set("left", 2), Fill(), Write("there")], Store([7, 8, 9]), Boxes(0, 0, 0, 1, 5, 1))
        self.assertEqual(machine.run(99), ("end", 4))
        return machine

    STATES = [(0, (0, 0, 0, 1, 5, 1), [7, 8, 9]), (1, (0, 0, 2, 1, 5, 1), [7, 8, 9]),
              (1, (0, 1, 1, 1, 5, 1), [5, 8, 9]), (2, (0, 2, 0, 1, 5, 1), [5, 5, 9]),
              (3, (0, 2, 0, 1, 5, 1), [5, 5, 2])]

    def test_none_some_and_all(self):
        for many in range(5):
            machine = self.gone()
            log = machine.log()
            self.assertIsNone(machine.back(many))
            self.assertEqual(machine.state(), self.STATES[4 - many])
            self.assertEqual(machine.log(), log[:4 - many])

    def test_one_behind_another(self):
        machine = self.gone()
        for left in range(3, -1, -1):
            machine.back(0)
            machine.back(1)
            self.assertEqual(machine.state(), self.STATES[left])
        self.assertEqual(refused(self, NoBack, machine.back, 1).many, 1)

    def test_no_back(self):
        machine = self.gone()
        log = machine.log()
        for many in no_wholes() + [-1, -4, 5, 6, 10 ** 9, BIG, -BIG, Store([1]), Boxes(), Copy(), machine]:
            with self.subTest(repr(many)):
                self.assertIs(refused(self, NoBack, machine.back, many).many, many)
                self.assertEqual((machine.state(), machine.log()), (self.STATES[4], log))
        machine.back(4)
        self.assertEqual(machine.state(), self.STATES[0])
        for many in (1, -1, True, False):
            self.assertIs(refused(self, NoBack, machine.back, many).many, many)
        machine.back(0)
        self.assertEqual((machine.state(), machine.log()), (self.STATES[0], []))

    def test_leaves_stay(self):
        for word in ("look", "shut"):
            machine = self.gone()
            machine.leave(0, 3, word)
            machine.back(3)
            self.assertEqual((machine.state(), machine.leaves()), (self.STATES[1], [word] * 3))
            self.assertEqual(machine.run(9), ("stop", 0))
            self.assertEqual((machine.why(), len(machine.log())), ((1, "put", 0), 1))
            machine.leave(0, 3, "open")
            self.assertEqual(machine.run(9), ("end", 3))
            self.assertEqual(machine.state(), self.STATES[4])

    def test_going_on_anew(self):
        machine = self.gone()
        log = machine.log()
        machine.back(3)
        self.assertEqual(machine.run(9), ("end", 3))
        self.assertEqual((machine.state(), machine.log()), (self.STATES[4], log))

    def test_going_on_otherwise_than_the_first_time(self):
        rows = [Set("left", 3), Fill(), Set("sign", 1)]
        machine = Watched(rows, store_of([7, 8, 9], ["open", "open", "shut"]), Boxes(0, 0, 0, 1, 5, 0))
        self.assertEqual(machine.run(9), ("stop", 3))
        machine.back(2)
        machine.leave(1, 2, "look")
        self.assertEqual(machine.run(9), ("stop", 1))
        self.assertEqual(machine.log(), [(0, (0, 0, 0, 1, 5, 0), []), (1, (0, 0, 3, 1, 5, 0), [(0, 7, 5)])])
        machine.leave(0, 3, "open")
        self.assertEqual(machine.run(9), ("end", 3))
        machine.back(5)
        self.assertEqual(machine.state(), (0, (0, 0, 0, 1, 5, 0), [7, 8, 9]))

    def test_back_from_the_end_and_over_hops(self):
        machine = Watched([Hop(24), Set("left", 2)], Store([7]), Boxes())
        self.assertEqual(machine.run(9), ("end", 1))
        machine.back(1)
        self.assertEqual((machine.state(), machine.log()), ((0, AT_FIRST, [7]), []))

    def test_only_its_own_steps_are_taken_back(self):
        machine = Watched([Set("left", 2), Set("left", 3)], Store([7]), Boxes(), 1)
        machine.run(9)
        self.assertEqual(refused(self, NoBack, machine.back, 2).many, 2)
        machine.back(1)
        self.assertEqual(machine.state(), (1, AT_FIRST, [7]))


if __name__ == "__main__":
    unittest.main()
