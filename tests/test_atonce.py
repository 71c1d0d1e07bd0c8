import itertools
import unittest

from haulbell.atonce import at_once
from haulbell.boxes import Boxes
from haulbell.longs import Copy, Fill, Match, Seek, Shift, Turn
from haulbell.store import Store
from helper import DEEDS, LEAVES, long_step, step_of, store_of

FAR = 10 ** 9


def one_behind_another(word, boxes, cells, leaves):
    """(boxes, contents, (steps, stop)), by the second writing of the steps."""
    for steps in itertools.count():
        boxes, cells, told = long_step(word, boxes, cells, leaves)
        if told == 1:
            return boxes, cells, (steps + 1, None)
        if told != 0:
            return boxes, cells, (steps, told)


def by_its_steps(deed, boxes, store):
    """The same, by the deed's own steps."""
    for steps in itertools.count():
        told = step_of(deed, boxes, store)
        if told == 1:
            return (steps + 1, None)
        if told != 0:
            return (steps, told)


class AgainstItsSteps(unittest.TestCase):
    def ask(self, word, numbers, cells, leaves):
        boxes, store = Boxes(*numbers), store_of(cells, leaves)
        told = at_once(DEEDS[word](), boxes, store)
        answer = (boxes.told(), store.told(), told)
        if answer != one_behind_another(word, numbers, cells, leaves):
            self.fail((word, numbers, cells, leaves, answer))
        self.assertEqual(store.leaves(), list(leaves))
        boxes, store = Boxes(*numbers), store_of(cells, leaves)
        told = by_its_steps(DEEDS[word](), boxes, store)
        self.assertEqual(answer, (boxes.told(), store.told(), told))

    def test_both_ways_and_all_overlaps(self):
        cells = [5, 6, 5, 5, 6, 7]
        for here, there, left, way in itertools.product(range(-1, 7), range(-1, 7), range(8), (1, -1)):
            for word in DEEDS:
                self.ask(word, (here, there, left, way, 7, 1), cells, ["open"] * 6)

    def test_signs_and_mets(self):
        for sign, met, here, left in itertools.product((4, 5, 6, 7), (0, 1), range(4), range(6)):
            for word in DEEDS:
                self.ask(word, (here, 3, left, 1, sign, met), [5, 6, 5, 5, 7], ["open"] * 5)

    def test_every_leave(self):
        for leaves in itertools.product(LEAVES, repeat=4):
            for here, there, left, way in itertools.product((0, 1, 3), (0, 2, 3), (1, 2, 4), (1, -1)):
                for word in DEEDS:
                    self.ask(word, (here, there, left, way, 5, 0), [5, 6, 5, 6], leaves)

    def test_many_left(self):
        cells = list(range(60))
        for left in (59, 60, 61, FAR - 1, FAR):
            for here, there, way in itertools.product((0, 1, 59), (0, 1, 59), (1, -1)):
                for word in DEEDS:
                    self.ask(word, (here, there, left, way, 100, 0), cells, ["open"] * 60)

    def test_far_off(self):
        for here, there in itertools.product((-FAR, 2 - FAR, 3 - FAR, 0, FAR), repeat=2):
            for left, way in itertools.product((0, 1, 2, FAR - 1, FAR), (1, -1)):
                for word in DEEDS:
                    self.ask(word, (here, there, left, way, 2, 1), [1, 2, 3], ["open"] * 3)


class AtOnce(unittest.TestCase):
    def does(self, deed, numbers, cells, told, numbers_then, cells_then):
        boxes, store = Boxes(*numbers), Store(cells)
        answer = at_once(deed, boxes, store)
        self.assertEqual((answer, boxes.told(), store.told()), (told, numbers_then, cells_then))
        self.assertIs(type(answer), tuple)
        self.assertIs(type(answer[0]), int)

    def test_left_0_is_one_step(self):
        for word, kind in DEEDS.items():
            then = {"seek": 0, "match": 1}.get(word, 1)
            self.does(kind(), (-5, FAR, 0, 1, 0, 1), [7], (1, None), (-5, FAR, 0, 1, 0, then), [7])
        self.does(Match(), (-5, FAR, 0, 1, 0, 0), [7], (1, None), (-5, FAR, 0, 1, 0, 1), [7])

    def test_copy(self):
        cells = [1, 2, 3, 4, 5, 6]
        self.does(Copy(), (0, 2, 4, 1, 0, 0), cells, (4, None), (4, 6, 0, 1, 0, 0), [1, 2, 1, 2, 1, 2])
        self.does(Copy(), (2, 0, 4, 1, 0, 0), cells, (4, None), (6, 4, 0, 1, 0, 0), [3, 4, 5, 6, 5, 6])
        self.does(Copy(), (5, 3, 4, -1, 0, 0), cells, (4, None), (1, -1, 0, -1, 0, 0), [5, 6, 5, 6, 5, 6])
        self.does(Copy(), (1, 1, 3, 1, 0, 0), cells, (3, None), (4, 4, 0, 1, 0, 0), cells)
        self.does(Copy(), (0, 3, FAR, 1, 0, 0), cells, (3, ("put", 6)), (3, 6, FAR - 3, 1, 0, 0), [1, 2, 3, 1, 2, 3])

    def test_fill(self):
        self.does(Fill(), (9, 0, 3, 1, 8, 0), [1, 2, 3, 4], (3, None), (9, 3, 0, 1, 8, 0), [8, 8, 8, 4])
        self.does(Fill(), (9, 1, 3, -1, 8, 0), [1, 2, 3, 4], (2, ("put", -1)), (9, -1, 1, -1, 8, 0), [8, 8, 3, 4])

    def test_seek(self):
        self.does(Seek(), (0, 9, 4, 1, 3, 0), [1, 2, 3, 3], (3, None), (2, 9, 2, 1, 3, 1), [1, 2, 3, 3])
        self.does(Seek(), (0, 9, 2, 1, 3, 1), [1, 2, 3, 3], (2, None), (2, 9, 0, 1, 3, 0), [1, 2, 3, 3])
        self.does(Seek(), (0, 9, 5, 1, 9, 1), [1, 2], (2, ("look", 2)), (2, 9, 3, 1, 9, 0), [1, 2])

    def test_match(self):
        self.does(Match(), (0, 2, 2, 1, 0, 0), [1, 2, 1, 2], (2, None), (2, 4, 0, 1, 0, 1), [1, 2, 1, 2])
        self.does(Match(), (0, 2, 2, 1, 0, 1), [1, 2, 1, 3], (2, None), (1, 3, 1, 1, 0, 0), [1, 2, 1, 3])
        self.does(Match(), (0, 2, 3, 1, 0, 0), [1, 1, 1, 1], (2, ("look", 4)), (2, 4, 1, 1, 0, 1), [1, 1, 1, 1])

    def test_shift(self):
        cells = [1, 2, 3, 4, 5]
        for way in (1, -1):
            self.does(Shift(), (0, 1, 4, way, 0, 0), cells, (4, None), (0, 1, 0, way, 0, 0), [1, 1, 2, 3, 4])
            self.does(Shift(), (1, 0, 4, way, 0, 0), cells, (4, None), (5, 4, 0, way, 0, 0), [2, 3, 4, 5, 5])
            self.does(Shift(), (1, 1, 3, way, 0, 0), cells, (3, None), (4, 4, 0, way, 0, 0), cells)

    def test_turn(self):
        cells = [1, 2, 3, 4, 5]
        self.does(Turn(), (0, 9, 5, 1, 0, 0), cells, (3, None), (2, 9, 0, 1, 0, 0), [5, 4, 3, 2, 1])
        self.does(Turn(), (1, 9, 4, -1, 0, 0), cells, (2, None), (3, 9, 0, -1, 0, 0), [1, 5, 4, 3, 2])
        self.does(Turn(), (FAR, 9, 1, 1, 0, 0), cells, (1, None), (FAR, 9, 0, 1, 0, 0), cells)


class BehindAStop(unittest.TestCase):
    def test_asked_again_it_stops_there_again(self):
        boxes, store = Boxes(0, 3, 3), store_of([1, 2, 3, 0, 0, 0], ["open"] * 4 + ["look", "open"])
        self.assertEqual(at_once(Copy(), boxes, store), (1, ("put", 4)))
        for turn in range(2):
            self.assertEqual(at_once(Copy(), boxes, store), (0, ("put", 4)))
            self.assertEqual((boxes.told(), store.told()), ((1, 4, 2, 1, 0, 0), [1, 2, 3, 1, 0, 0]))

    def test_opened_it_goes_on_as_if_it_had_never_been_there(self):
        cells = [1, 2, 1, 2, 3, 2, 1, 9]
        for word, here, there, left, way in itertools.product(DEEDS, range(8), range(8), range(9), (1, -1)):
            for cell in range(0, 8, 3):
                for leave in ("look", "shut"):
                    self.gone_on_with(word, (here, there, left, way, 9, 0), cells, cell, leave)

    def gone_on_with(self, word, numbers, cells, cell, leave):
        free, free_store = Boxes(*numbers), Store(cells)
        at_last = at_once(DEEDS[word](), free, free_store)
        boxes, store = Boxes(*numbers), Store(cells)
        store.leave(cell, cell + 1, leave)
        steps, stop = at_once(DEEDS[word](), boxes, store)
        if stop is not None and stop[1] == cell:
            store.leave(cell, cell + 1, "open")
            more, stop = at_once(DEEDS[word](), boxes, store)
            steps += more
        self.assertEqual((steps, stop), at_last)
        self.assertEqual((boxes.told(), store.told()), (free.told(), free_store.told()))

    def test_broken_ahead_of_it(self):
        for word, kind in DEEDS.items():
            for left, broken in itertools.product(range(1, 7), range(4)):
                numbers, cells = (1, 3, left, 1, 9, 0), [1, 2, 3, 2, 3, 2, 3, 2, 3, 9]
                whole, whole_store = Boxes(*numbers), Store(cells)
                steps = at_once(kind(), whole, whole_store)[0]
                boxes, store = Boxes(*numbers), Store(cells)
                if broken < steps:
                    for step in range(broken):
                        self.assertEqual(kind().step(boxes, store), 0)
                    self.assertEqual(at_once(kind(), boxes, store), (steps - broken, None), (word, left, broken))
                    self.assertEqual((boxes.told(), store.told()), (whole.told(), whole_store.told()))


if __name__ == "__main__":
    unittest.main()
