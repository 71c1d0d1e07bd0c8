"""The machine. Every test here is asked of a watched machine, too: test_watched puts it in as the kind."""

import itertools
import random
import unittest

from haulbell.atonce import at_once
from haulbell.boxes import Boxes
from haulbell.deeds import Add, Deed, Read, Set, Take, Write
from haulbell.errors import HaulError, NoLeave, NoPlace, NoRows
from haulbell.hops import Hop
from haulbell.longs import Copy, Fill, Match, Seek, Shift, Turn
from haulbell.machine import Machine
from haulbell.store import Store
from helper import BIG, DEEDS, LEAVES, machine_things, no_texts, no_wholes, refused, run_model, store_of

AT_FIRST = (0, 0, 0, 1, 0, 0)


def every_kind():
    return [Set("left", 2), Add("here", 1), Take("there", "here"), Read("sign"), Write("sign"), Hop(0), Hop(1, 0),
            Copy(), Fill(), Seek(), Match(), Shift(), Turn()]


def all_of(machine):
    return machine.state(), machine.leaves(), machine.rows(), machine.why()


class Asked(unittest.TestCase):
    kind = Machine

    def machine(self, rows, cells=(7, 8, 9), numbers=AT_FIRST, at=0):
        return self.kind(rows, Store(list(cells)), Boxes(*numbers), at)


class Made(Asked):
    def spoil(self, error_class, at, *things):
        with self.subTest(repr(things)):
            made = refused(self, error_class, self.kind, *things)
            self.assertIs(made.at, at) if error_class is NoPlace else self.assertEqual(made.at, at)

    def test_of_one_and_of_twenty_four_rows(self):
        for many in (1, 2, 23, 24):
            for at in (0, 1, many - 1, many):
                machine = self.kind([Set("left", 2)] * many, Store([7]), Boxes(), at)
                self.assertEqual(machine.rows(), [["set", "left", "2"]] * many)
                self.assertEqual(machine.state(), (at, AT_FIRST, [7]))

    def test_of_every_kind_of_deed(self):
        machine = self.kind(every_kind(), Store([7]), Boxes())
        self.assertEqual(machine.rows(), [deed.words() for deed in every_kind()])

    def test_at_row_0_where_no_number_is_handed_in(self):
        self.assertEqual(self.kind([Copy()], Store([7]), Boxes(1, 2, 3, -1, 4, 1)).state(),
                         (0, (1, 2, 3, -1, 4, 1), [7]))

    def test_what_is_no_list_of_one_to_twenty_four_things(self):
        things = [thing for thing in no_wholes() if not isinstance(thing, list)]
        things += [0, 1, BIG, Store([1]), Boxes(), Copy(), Copy, (Copy(),), {0: Copy()}, "copy"]
        for rows in things + [[], [Copy()] * 25, [Copy()] * 300, [None] * 25, [0] * 300]:
            self.spoil(NoRows, -1, rows, Store([1]), Boxes())

    def test_the_place_of_the_first_thing_that_is_no_deed(self):
        machine = self.machine([Copy()])
        for thing in no_wholes() + [0, 5, BIG, Store([1]), Boxes(), Copy, Deed, [Copy()], "copy", ["copy"], machine]:
            for many, at in ((1, 0), (5, 0), (5, 3), (24, 0), (24, 23)):
                rows = [Fill()] * many
                rows[at] = thing
                self.spoil(NoRows, at, rows, Store([1]), Boxes())

    def test_of_two_the_first_one(self):
        self.spoil(NoRows, 1, [Copy(), 5, None, Copy()], Store([1]), Boxes())
        self.spoil(NoRows, 2, [Copy(), Fill(), None, 5], Store([1]), Boxes(), 0)

    def test_what_is_no_number_of_a_row(self):
        rows = [Copy(), Fill(), Turn()]
        for at in no_wholes() + [-1, -2, 4, 5, 24, 25, BIG, -BIG, Store([1]), Boxes(), Copy()]:
            self.spoil(NoPlace, at, rows, Store([1]), Boxes(), at)
        self.spoil(NoPlace, 2, [Copy()], Store([1]), Boxes(), 2)
        self.spoil(NoPlace, 25, [Copy()] * 24, Store([1]), Boxes(), 25)

    def test_rows_go_ahead_of_the_place(self):
        for at in no_wholes() + [-1, 4, BIG]:
            self.spoil(NoRows, -1, [], Store([1]), Boxes(), at)
            self.spoil(NoRows, -1, (Copy(),), Store([1]), Boxes(), at)
            self.spoil(NoRows, 1, [Copy(), at], Store([1]), Boxes(), at)

    def test_made_good_it_is_taken(self):
        rows, store, boxes = [Copy(), None], Store([1]), Boxes()
        refused(self, NoRows, self.kind, rows, store, boxes, 3)
        self.assertEqual((rows[1:], store.told(), boxes.told()), ([None], [1], AT_FIRST))
        rows[1] = Fill()
        refused(self, NoPlace, self.kind, rows, store, boxes, 3)
        self.assertEqual(self.kind(rows, store, boxes, 2).rows(), [["copy"], ["fill"]])

    def test_it_keeps_copies(self):
        rows = [Set("sign", 5), Write("sign"), Read("left")]
        store, boxes = store_of([7, 8], ["open", "look"]), Boxes(1)
        machine, twin = self.kind(rows, store, boxes), self.kind(list(rows), store.copied(), boxes.copied())
        rows[1] = Copy()
        rows.append(Fill())
        store.put(0, 9)
        store.leave(0, 2, "shut")
        boxes.give("there", 9)
        self.assertEqual(all_of(machine), all_of(twin))
        self.assertEqual(machine.run(9), ("end", 3))
        self.assertEqual(machine.state(), (3, (1, 0, 8, 1, 5, 0), [5, 8]))

    def test_it_changes_nothing_that_was_handed_in(self):
        rows = [Set("sign", 5), Write("sign"), Read("left")]
        kept = list(rows)
        store, boxes = store_of([7, 8], ["open", "look"]), Boxes(1)
        machine = self.kind(rows, store, boxes)
        machine.run(9)
        machine.leave(0, 2, "shut")
        self.assertTrue(len(rows) == 3 and all(one is other for one, other in zip(rows, kept)))
        self.assertEqual((store.told(), store.leaves(), boxes.told()), ([7, 8], ["open", "look"], (1, 0, 0, 1, 0, 0)))

    def test_one_deed_in_several_rows_and_machines(self):
        deed = Add("sign", 2)
        one, other = self.machine([deed, deed, deed]), self.machine([deed, Hop(0), deed])
        for machine in (one, other, one, other, one, other):
            self.assertEqual(machine.step(), "on")
        self.assertEqual((one.state()[1][4], other.state()[1][4]), (6, 4))


class Steps(Asked):
    def test_a_step_goes_on_by_what_the_deed_tells(self):
        machine = self.machine([Set("left", 2), Fill(), Hop(1), Copy(), Add("here", 1)], [7, 8, 9], (0, 0, 0, 1, 5, 0))
        stood = []
        while machine.step() == "on":
            stood.append((machine.state()[0], machine.state()[1][2]))
        self.assertEqual(stood, [(1, 2), (1, 1), (2, 0), (4, 0), (5, 0)])
        self.assertEqual(machine.state(), (5, (1, 2, 0, 1, 5, 0), [5, 5, 9]))

    def test_hops_never_go_further_than_the_end(self):
        for many in (0, 1, 2, 3, 4, 23, 24):
            for at in range(4):
                machine = self.machine([Hop(many)] * 4, at=at)
                self.assertEqual(machine.step(), "on")
                self.assertEqual(machine.state()[0], min(at + 1 + many, 4))

    def test_hops_by_met(self):
        for on, met in itertools.product((0, 1), repeat=2):
            machine = self.machine([Hop(1, on), Set("left", 1), Set("sign", 1)], numbers=(0, 0, 0, 1, 0, met))
            self.assertEqual(machine.run(9), ("end", 2 if on == met else 3))
            self.assertEqual(machine.state()[1], (0, 0, 0 if on == met else 1, 1, 1, met))

    def test_at_the_end_it_does_nothing(self):
        machine = self.machine([Set("left", 1), Write("sign")], at=2)
        before = all_of(machine)
        for turn in range(3):
            self.assertEqual(machine.step(), "end")
            self.assertIsNone(machine.why())
            self.assertEqual(all_of(machine), before)

    def test_a_refused_step_changes_nothing(self):
        for deed, numbers, leaves, why in STOPS:
            machine = self.kind([Hop(0), deed], store_of([7, 8, 9], leaves), Boxes(*numbers), 1)
            for turn in range(3):
                self.assertEqual(machine.step(), "stop")
                self.assertEqual(all_of(machine), ((1, numbers, [7, 8, 9]), leaves, [["hop", "0"], deed.words()], why))
                self.assertEqual(machine.run(5), ("stop", 0))

    def test_a_stop_whose_cell_is_opened_is_gone_on_from(self):
        machine = self.kind([Copy(), Set("sign", 4)], store_of([1, 2, 3, 0, 0, 0], ["open"] * 4 + ["look", "shut"]),
                            Boxes(0, 3, 3))
        self.assertEqual(machine.run(9), ("stop", 1))
        self.assertEqual(machine.why(), (0, "put", 4))
        machine.leave(4, 5, "open")
        self.assertIsNone(machine.why())
        self.assertEqual(machine.run(9), ("stop", 1))
        self.assertEqual(machine.why(), (0, "put", 5))
        machine.leave(5, 6, "open")
        self.assertEqual(machine.run(9), ("end", 2))
        self.assertEqual(machine.state(), (2, (3, 6, 0, 1, 4, 0), [1, 2, 3, 1, 2, 3]))


OPEN = ["open"] * 3
# (deed, boxes, leaves, what why tells in row 1)
STOPS = [
    (Set("way", 0), AT_FIRST, OPEN, (1, "fit", "way")),
    (Set("met", 2), AT_FIRST, OPEN, (1, "fit", "met")),
    (Add("left", -1), AT_FIRST, OPEN, (1, "fit", "left")),
    (Add("here", 1), (10 ** 9, 0, 0, 1, 0, 0), OPEN, (1, "fit", "here")),
    (Take("sign", "here"), (-1, 0, 0, 1, 0, 0), OPEN, (1, "fit", "sign")),
    (Read("met"), AT_FIRST, OPEN, (1, "fit", "met")),
    (Read("met"), AT_FIRST, ["shut", "open", "open"], (1, "look", 0)),
    (Read("left"), (3, 0, 0, 1, 0, 0), OPEN, (1, "look", 3)),
    (Write("there"), (0, -1, 0, 1, 0, 0), OPEN, (1, "fit", "there")),
    (Write("sign"), (0, -1, 0, 1, 0, 0), OPEN, (1, "put", -1)),
    (Write("sign"), (0, 1, 0, 1, 0, 0), ["open", "look", "open"], (1, "put", 1)),
    (Copy(), (3, 0, 1, 1, 0, 0), OPEN, (1, "look", 3)),
    (Copy(), (0, 10 ** 9, 1, 1, 0, 0), OPEN, (1, "put", 10 ** 9)),
    (Fill(), (0, 2, 1, 1, 0, 0), ["open", "open", "shut"], (1, "put", 2)),
    (Seek(), (-10 ** 9, 0, 1, 1, 0, 0), OPEN, (1, "look", -10 ** 9)),
    (Match(), (0, 2, 1, 1, 0, 0), ["open", "open", "shut"], (1, "look", 2)),
    (Shift(), (10 ** 9 - 1, 10 ** 9, 10 ** 9, 1, 0, 0), OPEN, (1, "look", 2 * 10 ** 9 - 2)),
    (Turn(), (0, 0, 3, 1, 0, 0), ["look", "open", "look"], (1, "put", 0)),
    (Turn(), (0, 0, 3, 1, 0, 0), ["open", "open", "look"], (1, "put", 2)),
]


class Why(Asked):
    def test_each_cause(self):
        for deed, numbers, leaves, why in STOPS:
            machine = self.kind([Hop(0), deed], store_of([7, 8, 9], leaves), Boxes(*numbers))
            self.assertIsNone(machine.why())
            machine.step()
            for turn in range(2):
                told = machine.why()
                self.assertEqual(told, why)
                self.assertIs(type(told), tuple)

    def test_asking_changes_nothing(self):
        for deed in every_kind():
            machine = self.machine([deed, deed], numbers=(0, 1, 2, 1, 4, 1))
            before = machine.state(), machine.leaves(), machine.rows()
            for turn in range(3):
                self.assertIsNone(machine.why())
            self.assertEqual((machine.state(), machine.leaves(), machine.rows()), before)
            self.assertEqual(machine.step(), "on")


class Run(Asked):
    def rows(self):
        return [Set("left", 3), Set("sign", 4), Fill(), Hop(1), Set("sign", 5), Add("here", 1)]

    def test_up_to_a_bell(self):
        for most in range(7):
            machine = self.machine(self.rows())
            self.assertEqual(machine.run(most), ("bell", most))
            self.assertEqual(machine.state()[0], [0, 1, 2, 2, 2, 3, 5][most])
            self.assertIs(type(machine.run(0)), tuple)

    def test_the_end_goes_ahead_of_the_bell(self):
        for most in (7, 8, 100, 10 ** 6):
            machine = self.machine(self.rows())
            self.assertEqual(machine.run(most), ("end", 7))
            self.assertEqual(machine.state(), (6, (1, 3, 0, 1, 4, 0), [4, 4, 4]))
            self.assertEqual(machine.run(most), ("end", 0))
            self.assertEqual(machine.run(0), ("end", 0))
        self.assertEqual(self.machine(self.rows(), at=6).run(0), ("end", 0))

    def test_the_bell_goes_ahead_of_a_stop(self):
        rows = [Set("left", 4), Fill()]
        for most in range(8):
            machine = self.machine(rows)
            told = ("bell", most) if most <= 4 else ("stop", 4)
            self.assertEqual(machine.run(most), told)
            self.assertEqual(machine.state()[1][2], [0, 4, 3, 2, 1, 1, 1, 1][most])
        self.assertEqual(machine.run(0), ("bell", 0))
        self.assertEqual(machine.run(1), ("stop", 0))
        self.assertEqual(machine.run(10 ** 6), ("stop", 0))
        self.assertEqual(machine.why(), (1, "put", 3))

    def test_run_of_0_changes_nothing(self):
        for at in range(7):
            machine = self.machine(self.rows(), at=at)
            before = all_of(machine)
            self.assertEqual(machine.run(0), ("end" if at == 6 else "bell", 0))
            self.assertEqual(all_of(machine), before)

    def test_a_long_deed_leaves_what_is_told_of_it_at_once(self):
        cells = [1, 2, 1, 2, 1, 3, 4, 5]
        for word, here, there, left, way in itertools.product(DEEDS, range(8), range(8), (0, 1, 2, 3, 5, 8), (1, -1)):
            numbers = (here, there, left, way, 3, 0)
            boxes, store = Boxes(*numbers), Store(cells)
            steps, stop = at_once(DEEDS[word](), boxes, store)
            machine = self.machine([DEEDS[word]()], cells, numbers)
            self.assertEqual(machine.run(10 ** 6), ("end" if stop is None else "stop", steps))
            self.assertEqual(machine.state(), (1 if stop is None else 0, boxes.told(), store.told()))
            self.assertEqual(machine.why(), None if stop is None else (0,) + stop)


class AgainstTheModel(Asked):
    """Rows of all kinds, on many stores and boxes, against a second writing of the machine."""

    def test_run(self):
        for seed in range(600):
            chance = random.Random(seed)
            rows, store, boxes = machine_things(chance)
            words, at = [deed.words() for deed in rows], chance.choice([0, 0, 0, len(rows) // 2, len(rows)])
            for most in (0, 1, 2, 5, 17, 10 ** 6):
                machine = self.kind(rows, store, boxes, at)
                told = machine.run(most)
                model = run_model(words, (at, boxes.told(), store.told()), store.leaves(), most)
                self.assertEqual((told, machine.state(), machine.why()), model, (seed, most))
                self.assertEqual((machine.leaves(), machine.rows()), (store.leaves(), words))

    def test_step(self):
        for seed in range(200):
            rows, store, boxes = machine_things(random.Random(seed))
            words = [deed.words() for deed in rows]
            machine, told = self.kind(rows, store, boxes), "on"
            while told == "on":
                (word, steps), state, why = run_model(words, machine.state(), machine.leaves(), 1)
                told = machine.step()
                self.assertEqual((told, machine.state(), machine.why()), ("on" if steps else word, state, why), seed)

    def test_sums_of_runs(self):
        for seed in range(200):
            chance = random.Random(seed)
            rows, store, boxes = machine_things(chance)
            bells = [chance.choice([0, 1, 1, 2, 3, 7, 20]) for bell in range(chance.randrange(1, 9))]
            one, other = self.kind(rows, store, boxes), self.kind(rows, store, boxes)
            told = [one.run(bell) for bell in bells]
            word, steps = other.run(sum(bells))
            self.assertEqual(sum(many for word, many in told), steps)
            self.assertEqual(all_of(one), all_of(other))
            if bells[-1] > 0:
                self.assertEqual(told[-1][0], word)

    def test_a_machine_made_of_what_was_told_goes_on(self):
        for seed in range(200):
            chance = random.Random(seed)
            rows, store, boxes = machine_things(chance)
            whole, broken = self.kind(rows, store, boxes), self.kind(rows, store, boxes)
            told, steps = whole.run(10 ** 6), 0
            while broken.step() == "on":
                steps += 1
                at, numbers, cells = broken.state()
                broken = self.kind(rows, store_of(cells, broken.leaves()), Boxes(*numbers), at)
            self.assertEqual((told[1], all_of(whole)), (steps, all_of(broken)))

    def test_every_stop_by_a_leave_opened(self):
        for seed in range(200):
            rows, store, boxes = machine_things(random.Random(seed))
            free = self.kind(rows, Store(store.told()), boxes)
            machine, steps = self.kind(rows, store, boxes), 0
            last = free.run(10 ** 6)
            while True:
                word, many = machine.run(3)
                steps += many
                why = machine.why()
                if why is not None and why[1] != "fit" and why[2] in range(store.size()):
                    machine.leave(why[2], why[2] + 1, "open")
                elif word != "bell":
                    break
            self.assertEqual((word, steps, machine.state(), machine.why()), last + (free.state(), free.why()))


class Told(Asked):
    def test_state(self):
        machine = self.machine([Copy(), Fill()], [7, 8, 9], (1, -2, 3, -1, 4, 1), 1)
        told = machine.state()
        self.assertEqual(told, (1, (1, -2, 3, -1, 4, 1), [7, 8, 9]))
        self.assertEqual([type(thing) for thing in told], [int, tuple, list])
        self.assertIs(type(told), tuple)

    def test_told_lists_are_new_ones(self):
        machine = self.machine([Set("sign", 1), Copy(), Hop(2, 1)])
        before = all_of(machine)
        machine.state()[2].clear()
        machine.leaves()[0] = "shut"
        machine.rows().pop()
        for words in machine.rows():
            words[0] = "spoilt"
            words.append("spoilt")
        self.assertEqual(all_of(machine), before)

    def test_what_was_told_stays(self):
        machine = self.machine([Set("sign", 1), Write("sign")])
        state, leaves, rows = machine.state(), machine.leaves(), machine.rows()
        machine.run(9)
        machine.leave(0, 3, "shut")
        self.assertEqual((state, leaves), ((0, AT_FIRST, [7, 8, 9]), ["open"] * 3))
        self.assertEqual(rows, [["set", "sign", "1"], ["write", "sign"]])

    def test_leave(self):
        for low, behind in itertools.combinations_with_replacement(range(4), 2):
            for word in LEAVES:
                machine = self.kind([Copy()], store_of([7, 8, 9], ["look", "open", "shut"]), Boxes())
                then = ["look", "open", "shut"]
                then[low:behind] = [word] * (behind - low)
                self.assertIsNone(machine.leave(low, behind, word))
                self.assertEqual(machine.leaves(), then)
                self.assertEqual(machine.state(), (0, AT_FIRST, [7, 8, 9]))

    def test_no_leave(self):
        machine = self.kind([Copy()], store_of([7, 8, 9], ["look", "open", "shut"]), Boxes())
        spoilt = [(thing, 2, "open") for thing in no_wholes() + [-1, 3, 4, BIG, -BIG]]
        spoilt += [(1, thing, "open") for thing in no_wholes() + [-1, 0, 4, BIG, -BIG]]
        spoilt += [(0, 1, thing) for thing in no_texts() + ["", "Open", "open ", "put", "opened"]]
        for things in spoilt:
            with self.subTest(repr(things)):
                made = refused(self, NoLeave, machine.leave, *things)
                self.assertTrue(made.low is things[0] and made.behind is things[1] and made.word is things[2])
        self.assertEqual(machine.leaves(), ["look", "open", "shut"])
        machine.leave(0, 3, "open")
        self.assertEqual(machine.leaves(), ["open"] * 3)

    def test_leaves_go_over_to_the_steps(self):
        machine = self.machine([Fill()], numbers=(0, 0, 3, 1, 5, 0))
        machine.leave(1, 2, "look")
        self.assertEqual(machine.run(9), ("stop", 1))
        self.assertEqual(machine.why(), (0, "put", 1))


class Copied(Asked):
    def test_a_copied_machine_is_as_the_first_one(self):
        for seed in range(100):
            chance = random.Random(seed)
            rows, store, boxes = machine_things(chance)
            machine = self.kind(rows, store, boxes)
            machine.run(chance.randrange(9))
            other = machine.copied()
            self.assertIs(type(other), self.kind)
            self.assertEqual(all_of(other), all_of(machine))
            self.assertEqual(other.run(10 ** 6), machine.run(10 ** 6))
            self.assertEqual(all_of(other), all_of(machine))

    def test_what_is_done_to_one_is_not_done_to_the_other(self):
        rows = [Set("sign", 5), Set("left", 2), Fill(), Add("here", 1)]
        for turn in (0, 1):
            machine = self.machine(rows)
            machine.run(3)
            pair = (machine, machine.copied())
            kept = all_of(pair[1 - turn])
            self.assertEqual(pair[turn].run(9), ("end", 2))
            pair[turn].leave(0, 3, "shut")
            self.assertEqual(all_of(pair[1 - turn]), kept)
            self.assertEqual(pair[1 - turn].run(9), ("end", 2))
            self.assertEqual(pair[1 - turn].state(), (4, (1, 2, 0, 1, 5, 0), [5, 5, 9]))

    def test_nothing_but_the_refusals_told_is_raised(self):
        for seed in range(100):
            rows, store, boxes = machine_things(random.Random(seed))
            try:
                self.kind(rows, store, boxes).run(10 ** 6)
            except HaulError as refusal:
                self.fail((seed, refusal))


if __name__ == "__main__":
    unittest.main()
