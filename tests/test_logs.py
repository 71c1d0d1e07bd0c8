import copy
import random
import unittest

from haulbell.boxes import Boxes
from haulbell.deeds import Add, Set, Write
from haulbell.errors import NoRows
from haulbell.hops import Hop
from haulbell.logs import log_holds
from haulbell.longs import Copy, Fill, Seek, Turn
from haulbell.store import Store
from haulbell.watched import Watched
from helper import BIG, log_model, machine_things, refused

ROWS = [Set("left", 3), Turn(), Write("here"), Hop(1, 0), Set("sign", 1), Add("there", 1)]
FIRST = (0, (0, 0, 0, 1, 0, 0), [7, 8, 9])


def logged(rows, first, most=10 ** 6):
    at, numbers, cells = first
    machine = Watched(rows, Store(cells), Boxes(*numbers), at)
    machine.run(most)
    return machine.log(), machine.state()


def other_numbers(number):
    return [number + 1, number - 1, -number - 1, number + 10 ** 9, BIG, -BIG]


def with_thing(things, place, thing):
    return things[:place] + type(things)([thing]) + things[place + 1:]


def spoilt_entries(entry):
    """The entry with one thing spoilt, in each way that its form lets."""
    row, boxes, changes = entry
    for number in other_numbers(row):
        yield (number, boxes, changes)
    for place, old in enumerate(boxes):
        for number in other_numbers(old):
            yield (row, with_thing(boxes, place, number), changes)
    for place, change in enumerate(changes):
        for part, old in enumerate(change):
            for number in other_numbers(old):
                yield (row, boxes, with_thing(changes, place, with_thing(change, part, number)))
        yield (row, boxes, changes[:place] + changes[place + 1:])
        yield (row, boxes, changes[:place] + [change] + changes[place:])
    yield (row, boxes, changes + [(0, 7, 7)])
    yield (row, boxes, [(0, 7, 7)] + changes)
    yield (row, boxes, changes + [(-1, BIG, -BIG)] * 300)
    if changes != changes[::-1]:
        yield (row, boxes, changes[::-1])


def spoilt_logs(log):
    for place, entry in enumerate(log):
        for spoilt in spoilt_entries(entry):
            yield with_thing(log, place, spoilt)
        yield log[:place] + log[place + 1:]
        yield log[:place] + [entry] + log[place:]
        for later in range(place + 1, len(log)):
            exchanged = list(log)
            exchanged[place], exchanged[later] = log[later], entry
            if exchanged != log:
                yield exchanged
    if log:
        yield []
        yield log + log
        yield log + [log[-1]] * 2000


def spoilt_states(state, most_row):
    at, numbers, cells = state
    for other in range(most_row + 1):
        if other != at:
            yield (other, numbers, cells)
    for place in range(6):
        number = -numbers[place] if place == 3 else 1 - numbers[place] if place == 5 else numbers[place] + 1
        yield (at, with_thing(numbers, place, number), cells)
    for place, content in enumerate(cells):
        yield (at, numbers, with_thing(cells, place, content + 1))


class LogHolds(unittest.TestCase):
    def holds(self, rows, first, entries, last, answer):
        told = log_holds(rows, first, entries, last)
        if told is not answer:
            self.fail((told, [deed.words() for deed in rows], first, entries, last))

    def test_logs_that_a_machine_told(self):
        for most in range(9):
            log, last = logged(ROWS, FIRST, most)
            self.assertEqual(len(log), min(most, 6))
            self.holds(ROWS, FIRST, log, last, True)

    def test_parts_of_a_log(self):
        log, last = logged(ROWS, FIRST)
        states = log_model([deed.words() for deed in ROWS], FIRST, ["open"] * 3, 99)[1]
        for low in range(7):
            for behind in range(7):
                self.holds(ROWS, states[low], log[low:behind], states[max(low, behind)], True)
                for other in range(7):
                    if other != max(low, behind):
                        self.holds(ROWS, states[low], log[low:behind], states[other], False)

    def test_no_entry(self):
        for at in range(7):
            state = (at, (5, 5, 5, -1, 5, 1), [7, 8, 9])
            self.holds(ROWS, state, [], state, True)
            for spoilt in spoilt_states(state, 6):
                self.holds(ROWS, state, [], spoilt, False)
                self.holds(ROWS, spoilt, [], state, False)

    def test_up_to_a_stop(self):
        rows, first = [Set("left", 4), Fill()], (0, (0, 0, 0, 1, 5, 0), [7, 8, 9])
        log, last = logged(rows, first)
        self.assertEqual((len(log), last), (4, (1, (0, 3, 1, 1, 5, 0), [5, 5, 5])))
        self.holds(rows, first, log, last, True)
        for entry in ((1, (0, 3, 1, 1, 5, 0), [(3, 0, 5)]), (1, (0, 3, 1, 1, 5, 0), [])):
            self.holds(rows, first, log + [entry], last, False)
            self.holds(rows, first, log + [entry], (2, (0, 4, 0, 1, 5, 0), [5, 5, 5]), False)
        self.holds(rows, last, [], last, True)

    def test_entries_behind_the_end(self):
        log, last = logged(ROWS, FIRST)
        self.assertEqual(last[0], 6)
        for entry in ((6, last[1], []), (5, last[1], []), log[-1]):
            self.holds(ROWS, FIRST, log + [entry], last, False)
            self.holds(ROWS, last, [entry], last, False)
        self.holds(ROWS, last, [], last, True)

    def test_one_thing_spoilt(self):
        for most in (1, 2, 3, 10 ** 6):
            log, last = logged(ROWS, FIRST, most)
            for spoilt in spoilt_logs(log):
                self.holds(ROWS, FIRST, spoilt, last, False)
            for spoilt in spoilt_states(last, 6):
                self.holds(ROWS, FIRST, log, spoilt, False)
            for spoilt in spoilt_states(FIRST, 6):
                self.holds(ROWS, spoilt, log, last, False)

    def test_other_rows(self):
        log, last = logged(ROWS, FIRST)
        self.holds(ROWS + [Seek()], FIRST, log, last, True)
        self.holds([Set("left", 2)] + ROWS[1:], FIRST, log, last, False)
        self.holds(ROWS[:4] + [Copy()] + ROWS[5:], FIRST, log, last, True)

    def test_a_change_that_leaves_the_content_is_one(self):
        first = (0, (0, 1, 1, 1, 8, 0), [7, 8])
        log, last = logged([Fill()], first)
        self.assertEqual(log, [(0, (0, 1, 1, 1, 8, 0), [(1, 8, 8)])])
        self.holds([Fill()], first, log, last, True)
        self.holds([Fill()], first, [(0, (0, 1, 1, 1, 8, 0), [])], last, False)

    def test_against_the_model(self):
        for seed in range(150):
            chance = random.Random(seed)
            rows, store, boxes = machine_things(chance)
            first = (chance.choice([0, 0, len(rows) // 2, len(rows)]), boxes.told(), store.told())
            words, leaves = [deed.words() for deed in rows], ["open"] * store.size()
            log, states = log_model(words, first, leaves, chance.choice([0, 1, 5, 10 ** 6]))
            self.holds(rows, first, log, states[-1], True)
            for spoilt in chance.sample(list(spoilt_logs(log)), min(len(log), 20)):
                self.holds(rows, first, spoilt, states[-1], False)
            for spoilt in spoilt_states(states[-1], len(rows)):
                self.holds(rows, first, log, spoilt, False)
            for spoilt in spoilt_states(first, len(rows)):
                model, then = log_model(words, spoilt, leaves, len(log))
                self.holds(rows, spoilt, log, states[-1], model == log and then[-1] == states[-1])

    def test_nothing_that_is_handed_in_is_changed(self):
        rows, first = list(ROWS), copy.deepcopy(FIRST)
        log, last = logged(rows, first)
        kept = copy.deepcopy((first, log, last))
        for turn in range(2):
            self.assertIs(log_holds(rows, first, log, last), True)
            self.assertIs(log_holds(rows, first, log[1:], last), False)
        self.assertEqual((first, log, last), kept)
        self.assertTrue(all(one is other for one, other in zip(rows, ROWS)))

    def test_rows_as_a_machine_wants_them(self):
        self.assertEqual(refused(self, NoRows, log_holds, [], FIRST, [], FIRST).at, -1)
        self.assertEqual(refused(self, NoRows, log_holds, [Copy(), 5], FIRST, [], FIRST).at, 1)


if __name__ == "__main__":
    unittest.main()
