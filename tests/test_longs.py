import itertools
import unittest

from haulbell.boxes import Boxes
from haulbell.deeds import Deed
from haulbell.errors import Stop
from haulbell.longs import Copy, Fill, Match, Seek, Shift, Turn
from haulbell.store import Store
from helper import DEEDS, long_step, refused, step_of, store_of

FAR = 10 ** 9


def run(deed, boxes, store):
    """How many steps there are up to the one that is done."""
    steps = 1
    while deed.step(boxes, store) == 0:
        steps += 1
    return steps


class AgainstTheModel(unittest.TestCase):
    def ask(self, word, boxes, cells, leaves):
        made, store = Boxes(*boxes), store_of(cells, leaves)
        told = step_of(DEEDS[word](), made, store)
        answer = (made.told(), store.told(), told)
        if answer != long_step(word, boxes, cells, leaves):
            self.fail((word, boxes, cells, leaves, answer, long_step(word, boxes, cells, leaves)))
        self.assertEqual(store.leaves(), list(leaves))

    def test_every_leave(self):
        for leaves in itertools.product(("open", "look", "shut"), repeat=3):
            for here, there, left in itertools.product(range(-1, 4), range(-1, 4), range(4)):
                for word in DEEDS:
                    self.ask(word, (here, there, left, 1, 5, 0), [5, 6, 5], leaves)

    def test_both_ways_and_both_mets(self):
        for way, met, sign in itertools.product((1, -1), (0, 1), (5, 6, 9)):
            for here, there, left in itertools.product(range(-1, 5), range(-1, 5), range(7)):
                for word in DEEDS:
                    self.ask(word, (here, there, left, way, sign, met), [5, 6, 5, 7], ["open"] * 4)

    def test_far_off(self):
        cells, leaves = [1, 2, 3, 4], ["open", "look", "open", "shut"]
        numbers = (-FAR, 1 - FAR, 2 - FAR, 3 - FAR, 4 - FAR, 5 - FAR, -1, 0, 1, 2, 4, FAR - 1, FAR)
        for here, there, left, way in itertools.product(numbers, numbers, (0, 1, 2, FAR - 1, FAR), (1, -1)):
            for word in DEEDS:
                self.ask(word, (here, there, left, way, 2, 1), cells, leaves)


class Words(unittest.TestCase):
    def test_words(self):
        for word, kind in DEEDS.items():
            deed = kind()
            self.assertIsInstance(deed, Deed)
            first = deed.words()
            self.assertEqual(first, [word])
            first.append("spoilt")
            self.assertEqual(deed.words(), [word])


class Steps(unittest.TestCase):
    def does(self, deed, boxes, cells, told, boxes_then, cells_then):
        made, store = Boxes(*boxes), Store(cells)
        answer = deed.step(made, store)
        self.assertEqual((answer, made.told(), store.told()), (told, boxes_then, cells_then))
        self.assertIs(type(answer), int)

    def test_left_0(self):
        for here, there in ((0, 1), (-FAR, FAR), (FAR, -FAR)):
            for word, kind in DEEDS.items():
                for met in (0, 1):
                    then = {"seek": 0, "match": 1}.get(word, met)
                    boxes = (here, there, 0, -1, 7, met)
                    self.does(kind(), boxes, [7, 8], 1, boxes[:5] + (then,), [7, 8])

    def test_left_0_asks_no_cell(self):
        for kind in DEEDS.values():
            store = Store([7, 8])
            store.leave(0, 2, "shut")
            self.assertEqual(kind().step(Boxes(0, 1), store), 1)

    def test_copy(self):
        self.does(Copy(), (0, 2, 2, 1, 0, 0), [7, 8, 9], 0, (1, 3, 1, 1, 0, 0), [7, 8, 7])
        self.does(Copy(), (2, 0, 1, -1, 0, 1), [7, 8, 9], 1, (1, -1, 0, -1, 0, 1), [9, 8, 9])
        self.does(Copy(), (0, 2, FAR, 1, 0, 0), [7, 8, 9], 0, (1, 3, FAR - 1, 1, 0, 0), [7, 8, 7])

    def test_fill(self):
        self.does(Fill(), (9, 1, 2, 1, 5, 0), [7, 8, 9], 0, (9, 2, 1, 1, 5, 0), [7, 5, 9])
        self.does(Fill(), (FAR, 0, 1, -1, 5, 1), [7, 8, 9], 1, (FAR, -1, 0, -1, 5, 1), [5, 8, 9])
        self.does(Fill(), (-FAR, 0, FAR, 1, FAR, 0), [7], 0, (-FAR, 1, FAR - 1, 1, FAR, 0), [FAR])

    def test_seek(self):
        self.does(Seek(), (1, 9, 5, 1, 8, 0), [7, 8, 9], 1, (1, 9, 5, 1, 8, 1), [7, 8, 9])
        self.does(Seek(), (0, 9, 5, 1, 8, 1), [7, 8, 9], 0, (1, 9, 4, 1, 8, 0), [7, 8, 9])
        self.does(Seek(), (0, 9, 1, -1, 8, 1), [7, 8, 9], 1, (-1, 9, 0, -1, 8, 0), [7, 8, 9])
        self.does(Seek(), (0, 9, FAR, 1, 7, 0), [7], 1, (0, 9, FAR, 1, 7, 1), [7])

    def test_match(self):
        self.does(Match(), (0, 1, 5, 1, 0, 1), [7, 8, 7], 1, (0, 1, 5, 1, 0, 0), [7, 8, 7])
        self.does(Match(), (0, 2, 5, 1, 0, 0), [7, 8, 7], 0, (1, 3, 4, 1, 0, 1), [7, 8, 7])
        self.does(Match(), (2, 0, 1, -1, 0, 0), [7, 8, 7], 1, (1, -1, 0, -1, 0, 1), [7, 8, 7])
        self.does(Match(), (1, 1, FAR, 1, 0, 0), [7, 8, 7], 0, (2, 2, FAR - 1, 1, 0, 1), [7, 8, 7])

    def test_shift_down_whatever_way_is(self):
        for way in (1, -1):
            self.does(Shift(), (1, 0, 2, way, 0, 0), [7, 8, 9], 0, (2, 1, 1, way, 0, 0), [8, 8, 9])
            self.does(Shift(), (2, 0, 1, way, 0, 1), [7, 8, 9], 1, (3, 1, 0, way, 0, 1), [9, 8, 9])
            self.does(Shift(), (1, 1, FAR, way, 0, 0), [7, 8, 9], 0, (2, 2, FAR - 1, way, 0, 0), [7, 8, 9])

    def test_shift_up_whatever_way_is(self):
        for way in (1, -1):
            self.does(Shift(), (0, 1, 2, way, 0, 0), [7, 8, 9], 0, (0, 1, 1, way, 0, 0), [7, 8, 8])
            self.does(Shift(), (0, 2, 1, way, 0, 1), [7, 8, 9], 1, (0, 2, 0, way, 0, 1), [7, 8, 7])
            far = (2 - FAR, 3 - FAR)
            self.does(Shift(), far + (FAR, way, 0, 0), [7, 8, 9], 0, far + (FAR - 1, way, 0, 0), [7, 8, 8])

    def test_turn(self):
        for way in (1, -1):
            self.does(Turn(), (0, 9, 3, way, 0, 0), [7, 8, 9], 0, (1, 9, 1, way, 0, 0), [9, 8, 7])
            self.does(Turn(), (1, 9, 2, way, 0, 1), [7, 8, 9], 1, (2, 9, 0, way, 0, 1), [7, 9, 8])
            self.does(Turn(), (0, 9, 4, way, 0, 0), [6, 7, 8, 9], 0, (1, 9, 2, way, 0, 0), [9, 7, 8, 6])

    def test_turn_of_left_1_asks_no_cell(self):
        for here in (-FAR, -1, 0, 3, FAR):
            made, store = Boxes(here, 0, 1), Store([7, 8, 9])
            store.leave(0, 3, "shut")
            self.assertEqual(Turn().step(made, store), 1)
            self.assertEqual((made.told(), store.told()), ((here, 0, 0, 1, 0, 0), [7, 8, 9]))

    def test_one_deed_on_several_boxes_and_stores(self):
        deed = Copy()
        places = [(Boxes(0, 2, 2), Store([first, first + 1, 0, 0])) for first in (1, 5, 9)]
        for turn in range(2):
            for boxes, store in places:
                self.assertEqual(deed.step(boxes, store), turn)
        self.assertEqual([store.told() for boxes, store in places], [[n, n + 1, n, n + 1] for n in (1, 5, 9)])


class Stops(unittest.TestCase):
    """A step is refused for the first cell that can't be, and for that one no more where it is opened."""

    def stops(self, deed, boxes, leaves, what, cell):
        made, store = Boxes(*boxes), store_of([7, 7, 7, 7], leaves)
        refusal = refused(self, Stop, deed.step, made, store)
        self.assertEqual((refusal.deed, refusal.cell), (what, cell))
        self.assertEqual((made.told(), store.told(), store.leaves()), (boxes, [7, 7, 7, 7], leaves))
        store.leave(0, 4, "open")
        if cell in range(4):
            self.assertNotEqual(step_of(deed, made, store), (what, cell))

    def test_looks_go_ahead_of_puts(self):
        both = ["shut"] * 4
        self.stops(Copy(), (1, 2, 2, 1, 0, 0), both, "look", 1)
        self.stops(Copy(), (1, 2, 2, 1, 0, 0), ["open", "look", "look", "open"], "put", 2)
        self.stops(Copy(), (1, 9, 2, 1, 0, 0), both, "look", 1)
        self.stops(Copy(), (9, -9, 2, 1, 0, 0), both, "look", 9)
        self.stops(Copy(), (0, -9, 2, 1, 0, 0), ["open"] * 4, "put", -9)
        self.stops(Copy(), (1, 1, 2, 1, 0, 0), ["open", "look", "open", "open"], "put", 1)

    def test_fill(self):
        for word in ("look", "shut"):
            self.stops(Fill(), (0, 2, 2, 1, 0, 0), ["open", "open", word, "open"], "put", 2)
        self.stops(Fill(), (0, 4, 2, 1, 0, 0), ["open"] * 4, "put", 4)
        self.stops(Fill(), (0, -1, 2, -1, 0, 0), ["open"] * 4, "put", -1)

    def test_seek(self):
        self.stops(Seek(), (2, 0, 2, 1, 7, 0), ["open", "open", "shut", "open"], "look", 2)
        self.stops(Seek(), (4, 0, 2, 1, 0, 1), ["open"] * 4, "look", 4)
        self.stops(Seek(), (-1, 0, 2, 1, 0, 1), ["open"] * 4, "look", -1)
        self.assertEqual(Seek().step(Boxes(0, 0, 2), store_of([7], ["look"])), 0)

    def test_match(self):
        self.stops(Match(), (1, 2, 2, 1, 0, 0), ["shut"] * 4, "look", 1)
        self.stops(Match(), (2, 1, 2, 1, 0, 0), ["shut"] * 4, "look", 2)
        self.stops(Match(), (1, 2, 2, 1, 0, 0), ["open", "look", "shut", "open"], "look", 2)
        self.stops(Match(), (1, 9, 2, 1, 0, 0), ["look"] * 4, "look", 9)
        self.stops(Match(), (8, 9, 2, 1, 0, 0), ["look"] * 4, "look", 8)

    def test_shift(self):
        self.stops(Shift(), (1, 0, 2, 1, 0, 0), ["shut"] * 4, "look", 1)
        self.stops(Shift(), (1, 0, 2, 1, 0, 0), ["look"] * 4, "put", 0)
        self.stops(Shift(), (1, 2, 2, 1, 0, 0), ["shut"] * 4, "look", 2)
        self.stops(Shift(), (1, 2, 2, 1, 0, 0), ["look"] * 4, "put", 3)
        self.stops(Shift(), (1, 2, 3, 1, 0, 0), ["open"] * 4, "put", 4)
        self.stops(Shift(), (0, 1, FAR, 1, 0, 0), ["open"] * 4, "look", FAR - 1)
        self.stops(Shift(), (FAR - 1, FAR, FAR, 1, 0, 0), ["open"] * 4, "look", 2 * FAR - 2)

    def test_turn(self):
        self.stops(Turn(), (1, 0, 3, 1, 0, 0), ["shut"] * 4, "look", 1)
        self.stops(Turn(), (1, 0, 3, 1, 0, 0), ["look", "look", "look", "shut"], "look", 3)
        self.stops(Turn(), (1, 0, 3, 1, 0, 0), ["look"] * 4, "put", 1)
        self.stops(Turn(), (1, 0, 3, 1, 0, 0), ["open", "open", "open", "look"], "put", 3)
        self.stops(Turn(), (1, 0, 4, 1, 0, 0), ["look"] * 4, "look", 4)
        self.stops(Turn(), (-1, 0, 4, 1, 0, 0), ["open"] * 4, "look", -1)
        self.stops(Turn(), (0, 0, FAR, 1, 0, 0), ["open"] * 4, "look", FAR - 1)

    def test_a_stop_within_a_long_deed_keeps_the_steps_ahead_of_it(self):
        boxes, store = Boxes(0, 3, 3), store_of([1, 2, 3, 0, 0, 0], ["open"] * 4 + ["shut", "open"])
        self.assertEqual(Copy().step(boxes, store), 0)
        refused(self, Stop, Copy().step, boxes, store)
        self.assertEqual((boxes.told(), store.told()), ((1, 4, 2, 1, 0, 0), [1, 2, 3, 1, 0, 0]))
        store.leave(4, 5, "open")
        self.assertEqual(run(Copy(), boxes, store), 2)
        self.assertEqual(store.told(), [1, 2, 3, 1, 2, 3])


class WholeDeeds(unittest.TestCase):
    def test_how_many_steps(self):
        for left in range(11):
            for word, kind in DEEDS.items():
                boxes, store = Boxes(0, 10, left, 1, 9), Store([1] * 20)
                steps = (left + 1) // 2 if word == "turn" else left
                self.assertEqual(run(kind(), boxes, store), max(1, steps), (word, left))
                self.assertEqual(boxes.holds("left"), 0)

    def test_seek_and_match_perhaps_fewer(self):
        boxes = Boxes(0, 0, 5, 1, 9)
        self.assertEqual(run(Seek(), boxes, Store([1, 2, 9, 4, 9])), 3)
        self.assertEqual(boxes.told(), (2, 0, 3, 1, 9, 1))
        boxes = Boxes(5, 2, 3, -1)
        self.assertEqual(run(Match(), boxes, Store([1, 2, 3, 9, 2, 3])), 3)
        self.assertEqual(boxes.told(), (3, 0, 1, -1, 0, 0))

    def test_the_copy_of_the_document(self):
        boxes, store = Boxes(0, 2, 4, 1), Store([1, 2, 3, 4, 5, 6])
        self.assertEqual(run(Copy(), boxes, store), 4)
        self.assertEqual(store.told(), [1, 2, 1, 2, 1, 2])
        self.assertEqual(boxes.told(), (4, 6, 0, 1, 0, 0))

    def test_a_copy_the_way_back(self):
        store = Store([1, 2, 3, 4, 5, 6])
        run(Copy(), Boxes(5, 3, 4, -1), store)
        self.assertEqual(store.told(), [5, 6, 5, 6, 5, 6])
        store = Store([1, 2, 3, 4, 5, 6])
        run(Copy(), Boxes(3, 5, 4, -1), store)
        self.assertEqual(store.told(), [1, 2, 1, 2, 3, 4])

    def test_a_shift_however_both_overlap(self):
        cells = list(range(10, 17))
        for here, there, left in itertools.product(range(7), range(7), range(8)):
            if max(here, there) + left <= 7:
                for way in (1, -1):
                    store = Store(cells)
                    run(Shift(), Boxes(here, there, left, way), store)
                    then = cells[:there] + cells[here:here + left] + cells[there + left:]
                    self.assertEqual(store.told(), then)

    def test_a_turn_and_a_fill(self):
        cells = list(range(10, 17))
        for first in range(7):
            for left in range(8 - first):
                store = Store(cells)
                run(Turn(), Boxes(first, 0, left), store)
                behind = first + left
                self.assertEqual(store.told(), cells[:first] + cells[first:behind][::-1] + cells[behind:])
                store = Store(cells)
                run(Fill(), Boxes(0, first, left, 1, 3), store)
                self.assertEqual(store.told(), cells[:first] + [3] * left + cells[behind:])


if __name__ == "__main__":
    unittest.main()
