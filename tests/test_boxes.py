import unittest

from haulbell.boxes import Boxes
from haulbell.errors import NoBox, NoFit
from haulbell.store import Store
from helper import BEYOND, BIG, FITTING, NAMES, no_texts, no_wholes, refused

FIRST = (0, 0, 0, 1, 0, 0)
OTHERS = (-5, 6, 7, -1, 8, 1)


def spoilt(box):
    return BEYOND[box] + [BIG, -BIG] + no_wholes() + [Store([1]), Boxes()]


def no_names():
    return no_texts() + ["", "Here", "here ", "heres", "her", "here there", "LEFT", "box", "0", Store([1]), Boxes()]


class Made(unittest.TestCase):
    def test_of_none_to_six_numbers(self):
        for many in range(7):
            boxes = Boxes(*OTHERS[:many])
            told = boxes.told()
            self.assertIs(type(told), tuple)
            self.assertEqual(told, OTHERS[:many] + FIRST[many:])
            self.assertEqual([boxes.holds(box) for box in NAMES], list(told))

    def test_each_box_takes_what_it_can_hold(self):
        for place, box in enumerate(NAMES):
            for number in FITTING[box]:
                handed = list(OTHERS)
                handed[place] = number
                self.assertEqual(Boxes(*handed).told(), tuple(handed))

    def test_each_box_refuses_what_it_cannot_hold(self):
        for place, box in enumerate(NAMES):
            for thing in spoilt(box):
                handed = list(OTHERS)
                handed[place] = thing
                with self.subTest(box, thing=repr(thing)):
                    made = refused(self, NoFit, Boxes, *handed)
                    self.assertEqual(made.box, box)
                    self.assertIs(made.number, thing)

    def test_the_first_box_that_cannot_hold_its_thing(self):
        for first in range(6):
            for second in range(first + 1, 6):
                handed = list(OTHERS)
                handed[first] = ["first"]
                handed[second] = None
                made = refused(self, NoFit, Boxes, *handed)
                self.assertEqual(made.box, NAMES[first])
                self.assertIs(made.number, handed[first])


class HoldsAndGive(unittest.TestCase):
    def test_give_what_it_can_hold(self):
        for place, box in enumerate(NAMES):
            boxes = Boxes(*OTHERS)
            for number in FITTING[box]:
                self.assertIsNone(boxes.give(box, number))
                self.assertEqual(boxes.holds(box), number)
                self.assertEqual(boxes.told(), OTHERS[:place] + (number,) + OTHERS[place + 1:])

    def test_give_what_it_cannot_hold(self):
        for box in NAMES:
            boxes = Boxes(*OTHERS)
            for thing in spoilt(box):
                with self.subTest(box, thing=repr(thing)):
                    made = refused(self, NoFit, boxes.give, box, thing)
                    self.assertEqual(made.box, box)
                    self.assertIs(made.number, thing)
                    self.assertEqual(boxes.told(), OTHERS)
            boxes.give(box, FITTING[box][0])
            self.assertEqual(boxes.holds(box), FITTING[box][0])

    def test_names_that_are_none(self):
        boxes = Boxes(*OTHERS)
        for thing in no_names():
            with self.subTest(repr(thing)):
                self.assertIs(refused(self, NoBox, boxes.holds, thing).box, thing)
                self.assertIs(refused(self, NoBox, boxes.give, thing, 0).box, thing)
                self.assertEqual(boxes.told(), OTHERS)

    def test_no_box_goes_ahead_of_no_fit(self):
        boxes = Boxes(*OTHERS)
        for thing in no_names():
            with self.subTest(repr(thing)):
                self.assertIs(refused(self, NoBox, boxes.give, thing, thing).box, thing)
        self.assertEqual(refused(self, NoBox, boxes.give, "wey", 10 ** 10).box, "wey")

    def test_asking_changes_nothing(self):
        boxes = Boxes(*OTHERS)
        for turn in range(2):
            self.assertEqual([boxes.holds(box) for box in NAMES], list(OTHERS))
            self.assertEqual(boxes.told(), OTHERS)


class Copied(unittest.TestCase):
    def test_free_of_the_first_both_ways(self):
        for turned in (False, True):
            boxes = Boxes(*OTHERS)
            pair = [boxes, boxes.copied()]
            one, other = pair[::-1] if turned else pair
            self.assertIs(type(other), Boxes)
            self.assertEqual(other.told(), OTHERS)
            for box in NAMES:
                one.give(box, FITTING[box][1])
            self.assertEqual(other.told(), OTHERS)
            changed = one.told()
            other.give("here", 33)
            self.assertEqual(one.told(), changed)
            self.assertEqual(other.told(), (33,) + OTHERS[1:])

    def test_boxes_made_at_two_times_are_apart(self):
        one, other = Boxes(), Boxes()
        one.give("left", 3)
        self.assertEqual(other.told(), FIRST)


if __name__ == "__main__":
    unittest.main()
