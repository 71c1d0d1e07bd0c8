import unittest

from haulbell.boxes import Boxes
from haulbell.deeds import Add, Deed, Read, Set, Take, Write
from haulbell.errors import NoDeed, NoFit, Stop
from haulbell.store import Store
from helper import BEYOND, BIG, FITTING, NAMES, no_texts, no_wholes, refused

START = (1, 2, 3, -1, 4, 1)
NUMBERS = [-10 ** 9, -10 ** 9 + 1, -1, 0, 1, 10 ** 9 - 1, 10 ** 9]
NO_NUMBERS = [-10 ** 9 - 1, 10 ** 9 + 1, BIG, -BIG]


def no_boxes():
    return no_texts() + ["", "Here", "heres", "left ", "boxes", Boxes(), Store([1])]


def start():
    return Boxes(*START), Store([10, 11, 12])


def with_box(box, number):
    place = NAMES.index(box)
    return START[:place] + (number,) + START[place + 1:]


class Made(unittest.TestCase):
    def spoil(self, word, kind, *things):
        with self.subTest(word, things=repr(things)):
            self.assertEqual(refused(self, NoDeed, kind, *things).word, word)

    def test_spoilt_boxes(self):
        for thing in no_boxes():
            self.spoil("set", Set, thing, 0)
            self.spoil("add", Add, thing, 0)
            self.spoil("take", Take, thing, "here")
            self.spoil("take", Take, "here", thing)
            self.spoil("read", Read, thing)
            self.spoil("write", Write, thing)

    def test_spoilt_numbers(self):
        for thing in no_wholes() + NO_NUMBERS:
            self.spoil("set", Set, "here", thing)
            self.spoil("add", Add, "here", thing)

    def test_all_spoilt(self):
        for thing in no_wholes():
            if thing != "here":
                self.spoil("set", Set, thing, thing)
                self.spoil("add", Add, thing, thing)
                self.spoil("take", Take, thing, thing)

    def test_a_number_that_the_box_cannot_hold_is_let(self):
        for box in NAMES:
            for number in NUMBERS:
                self.assertEqual(Set(box, number).words(), ["set", box, str(number)])
                self.assertEqual(Add(box, number).words(), ["add", box, str(number)])

    def test_all_are_deeds(self):
        for deed in (Set("here", 1), Add("here", 1), Take("here", "left"), Read("here"), Write("here")):
            self.assertIsInstance(deed, Deed)


class Words(unittest.TestCase):
    def test_words(self):
        self.assertEqual(Set("here", -12).words(), ["set", "here", "-12"])
        self.assertEqual(Set("way", 0).words(), ["set", "way", "0"])
        self.assertEqual(Add("left", -10 ** 9).words(), ["add", "left", "-1000000000"])
        self.assertEqual(Add("sign", 10 ** 9).words(), ["add", "sign", "1000000000"])
        self.assertEqual(Take("met", "way").words(), ["take", "met", "way"])
        self.assertEqual(Read("there").words(), ["read", "there"])
        self.assertEqual(Write("sign").words(), ["write", "sign"])

    def test_new_lists_each_time(self):
        for deed in (Set("here", 1), Add("here", 1), Take("here", "left"), Read("here"), Write("here")):
            first = deed.words()
            kept = list(first)
            first.append("spoilt")
            first[0] = "spoilt"
            self.assertEqual(deed.words(), kept)


class Steps(unittest.TestCase):
    def does(self, deed, boxes, store, boxes_then, cells_then):
        leaves = store.leaves()
        self.assertEqual(deed.step(boxes, store), 1)
        self.assertEqual(boxes.told(), boxes_then)
        self.assertEqual(store.told(), cells_then)
        self.assertEqual(store.leaves(), leaves)

    def no_fit(self, deed, boxes, store, box, number):
        before = (boxes.told(), store.told(), store.leaves())
        made = refused(self, NoFit, deed.step, boxes, store)
        self.assertEqual((made.box, made.number), (box, number))
        self.assertEqual((boxes.told(), store.told(), store.leaves()), before)

    def stops(self, deed, boxes, store, what, cell):
        before = (boxes.told(), store.told(), store.leaves())
        made = refused(self, Stop, deed.step, boxes, store)
        self.assertEqual((made.deed, made.cell), (what, cell))
        self.assertEqual((boxes.told(), store.told(), store.leaves()), before)

    def test_set(self):
        for box in NAMES:
            for number in FITTING[box]:
                self.does(Set(box, number), *start(), with_box(box, number), [10, 11, 12])
            for number in BEYOND[box]:
                if abs(number) <= 10 ** 9:
                    self.no_fit(Set(box, number), *start(), box, number)

    def test_add(self):
        for box, old in zip(NAMES, START):
            for number in FITTING[box]:
                if abs(number - old) <= 10 ** 9:
                    self.does(Add(box, number - old), *start(), with_box(box, number), [10, 11, 12])
            for number in BEYOND[box]:
                if abs(number - old) <= 10 ** 9:
                    self.no_fit(Add(box, number - old), *start(), box, number)

    def test_add_at_both_ends(self):
        store = Store([5])
        self.no_fit(Add("here", 10 ** 9), Boxes(10 ** 9), store, "here", 2 * 10 ** 9)
        self.no_fit(Add("there", -10 ** 9), Boxes(0, -10 ** 9), store, "there", -2 * 10 ** 9)
        self.no_fit(Add("left", -1), Boxes(), store, "left", -1)
        self.no_fit(Add("sign", 1), Boxes(0, 0, 0, 1, 10 ** 9), store, "sign", 10 ** 9 + 1)
        self.no_fit(Add("way", -1), Boxes(), store, "way", 0)
        self.does(Add("way", -2), Boxes(), store, (0, 0, 0, -1, 0, 0), [5])
        self.does(Add("here", 10 ** 9), Boxes(-10 ** 9), store, (0, 0, 0, 1, 0, 0), [5])

    def test_take(self):
        for box in NAMES:
            for other, number in zip(NAMES, START):
                if number in FITTING[box] or (number >= 0 and box not in ("way", "met")):
                    self.does(Take(box, other), *start(), with_box(box, number), [10, 11, 12])
                else:
                    self.no_fit(Take(box, other), *start(), box, number)

    def test_take_the_same_box(self):
        for box in NAMES:
            self.does(Take(box, box), *start(), START, [10, 11, 12])

    def test_take_at_the_ends(self):
        self.no_fit(Take("left", "here"), Boxes(-1), Store([5]), "left", -1)
        self.no_fit(Take("met", "way"), Boxes(0, 0, 0, -1), Store([5]), "met", -1)
        self.no_fit(Take("way", "met"), Boxes(), Store([5]), "way", 0)
        self.does(Take("sign", "here"), Boxes(10 ** 9), Store([5]), (10 ** 9, 0, 0, 1, 10 ** 9, 0), [5])

    def test_read(self):
        for box in ("here", "there", "left", "sign"):
            self.does(Read(box), *start(), with_box(box, 11), [10, 11, 12])
        cells = [0, 1, 10 ** 9]
        self.does(Read("met"), Boxes(1), Store(cells), (1, 0, 0, 1, 0, 1), cells)
        self.does(Read("way"), Boxes(1, 0, 0, -1), Store(cells), (1, 0, 0, 1, 0, 0), cells)
        self.does(Read("here"), Boxes(2), Store(cells), (10 ** 9, 0, 0, 1, 0, 0), cells)
        self.no_fit(Read("way"), Boxes(0), Store(cells), "way", 0)
        self.no_fit(Read("met"), Boxes(2), Store(cells), "met", 10 ** 9)

    def test_read_of_cells_that_are_not_there(self):
        for cell in (-1, 3, 10 ** 9, -10 ** 9):
            for box in NAMES:
                self.stops(Read(box), Boxes(cell, 1), Store([10, 11, 12]), "look", cell)

    def test_read_by_the_leave(self):
        boxes, store = start()
        store.leave(0, 3, "look")
        self.does(Read("sign"), boxes, store, with_box("sign", 11), [10, 11, 12])
        store.leave(0, 3, "shut")
        self.stops(Read("sign"), boxes, store, "look", 1)
        # Here a NoFit is due, too: cell 1 has 11.
        self.stops(Read("way"), boxes, store, "look", 1)
        self.stops(Read("met"), boxes, store, "look", 1)

    def test_write(self):
        for box, number in zip(NAMES, START):
            if box == "way":
                self.no_fit(Write(box), *start(), "way", -1)
            else:
                self.does(Write(box), *start(), START, [10, 11, number])
        self.does(Write("sign"), Boxes(0, 0, 0, 1, 10 ** 9), Store([5]), (0, 0, 0, 1, 10 ** 9, 0), [10 ** 9])
        self.does(Write("way"), Boxes(), Store([5]), (0, 0, 0, 1, 0, 0), [1])
        self.no_fit(Write("here"), Boxes(-1), Store([5]), "here", -1)
        self.no_fit(Write("here"), Boxes(-10 ** 9), Store([5]), "here", -10 ** 9)

    def test_write_of_cells_that_are_not_there(self):
        for cell in (-1, 3, 10 ** 9, -10 ** 9):
            for box in ("here", "left", "way", "sign", "met"):
                self.stops(Write(box), Boxes(1, cell), Store([10, 11, 12]), "put", cell)

    def test_write_by_the_leave(self):
        for word in ("look", "shut"):
            boxes, store = start()
            store.leave(2, 3, word)
            self.stops(Write("sign"), boxes, store, "put", 2)
            # Here a NoFit is due, too, and goes first.
            self.no_fit(Write("way"), boxes, store, "way", -1)
            store.leave(2, 3, "open")
            self.does(Write("sign"), boxes, store, START, [10, 11, 4])

    def test_write_no_fit_goes_ahead_of_a_cell_that_is_not_there(self):
        self.no_fit(Write("there"), Boxes(0, -1), Store([5]), "there", -1)
        self.stops(Write("there"), Boxes(0, 1), Store([5]), "put", 1)

    def test_only_the_cell_in_question_is_asked(self):
        boxes, store = start()
        store.leave(0, 3, "shut")
        for deed in (Set("sign", 5), Add("sign", 1), Take("left", "sign")):
            self.assertEqual(deed.step(boxes, store), 1)
        store.leave(1, 2, "look")
        self.assertEqual(Read("sign").step(boxes, store), 1)
        store.leave(2, 3, "open")
        self.assertEqual(Write("sign").step(boxes, store), 1)
        self.assertEqual(store.told(), [10, 11, 11])

    def test_one_deed_on_several_boxes_and_stores(self):
        deeds = [Add("sign", 2), Write("sign"), Read("left")]
        places = [(Boxes(0, 1, 0, 1, start_sign), Store([start_sign, 0])) for start_sign in (1, 5, 9)]
        for deed in deeds:
            for boxes, store in places:
                deed.step(boxes, store)
        told = [(boxes.told(), store.told()) for boxes, store in places]
        self.assertEqual(told, [((0, 1, sign, 1, sign + 2, 0), [sign, sign + 2]) for sign in (1, 5, 9)])
        self.assertEqual([deed.words() for deed in deeds], [["add", "sign", "2"], ["write", "sign"], ["read", "left"]])

    def test_a_refused_deed_is_taken_once_it_can_be(self):
        deed = Set("way", 0)
        self.no_fit(deed, *start(), "way", 0)
        deed = Add("left", -4)
        boxes, store = start()
        self.no_fit(deed, boxes, store, "left", -1)
        boxes.give("left", 4)
        self.does(deed, boxes, store, with_box("left", 0), [10, 11, 12])


if __name__ == "__main__":
    unittest.main()
