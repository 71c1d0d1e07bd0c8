import unittest

from haulbell.boxes import Boxes
from haulbell.deeds import Deed, Set
from haulbell.errors import NoDeed
from haulbell.hops import Hop
from haulbell.store import Store
from helper import BIG, no_wholes, refused


class Made(unittest.TestCase):
    def spoil(self, *things):
        with self.subTest(repr(things)):
            self.assertEqual(refused(self, NoDeed, Hop, *things).word, "hop")

    def test_it_is_a_deed(self):
        self.assertIsInstance(Hop(0), Deed)
        self.assertIsInstance(Hop(24, 1), Deed)

    def test_spoilt_many(self):
        for thing in no_wholes() + [-1, 25, 26, 300, BIG, -BIG, Boxes(), Store([1]), Hop(1)]:
            self.spoil(thing)
            self.spoil(thing, None)
            self.spoil(thing, 0)
            self.spoil(thing, 1)

    def test_spoilt_on(self):
        for thing in no_wholes() + [-1, 2, 24, BIG, -BIG, Boxes(), Store([1]), Set("met", 1)]:
            if thing is not None:
                self.spoil(0, thing)
                self.spoil(24, thing)
                self.spoil(25, thing)

    def test_every_many_that_may_be(self):
        for many in range(25):
            for on in (None, 0, 1):
                self.assertEqual(Hop(many, on).step(Boxes(0, 0, 0, 1, 0, on or 0), Store([5])), 1 + many)


class Steps(unittest.TestCase):
    def test_what_it_tells(self):
        for many in (0, 1, 7, 24):
            for met in (0, 1):
                for on in (None, 0, 1):
                    boxes = Boxes(3, -4, 5, -1, 6, met)
                    told = Hop(many, on).step(boxes, Store([5]))
                    self.assertEqual(told, 1 + many if on is None or on == met else 1)
                    self.assertIs(type(told), int)

    def test_on_is_none_where_it_is_not_handed_in(self):
        for met in (0, 1):
            self.assertEqual(Hop(5).step(Boxes(0, 0, 0, 1, 0, met), Store([5])), 6)

    def test_it_changes_nothing_and_asks_no_cell(self):
        for on in (None, 0, 1):
            for met in (0, 1):
                numbers = (10 ** 9, -4, 5, -1, 6, met)
                boxes, store = Boxes(*numbers), Store([5, 6])
                store.leave(0, 1, "shut")
                store.leave(1, 2, "look")
                for turn in range(2):
                    Hop(9, on).step(boxes, store)
                    self.assertEqual(boxes.told(), numbers)
                    self.assertEqual((store.told(), store.leaves()), ([5, 6], ["shut", "look"]))


class Words(unittest.TestCase):
    def test_words(self):
        self.assertEqual(Hop(0).words(), ["hop", "0"])
        self.assertEqual(Hop(24, None).words(), ["hop", "24"])
        self.assertEqual(Hop(3, 0).words(), ["hop", "3", "if", "0"])
        self.assertEqual(Hop(12, 1).words(), ["hop", "12", "if", "1"])

    def test_new_lists_each_time(self):
        for hop in (Hop(3), Hop(3, 0)):
            first = hop.words()
            kept = list(first)
            first.append("spoilt")
            first[0] = "spoilt"
            self.assertEqual(hop.words(), kept)


if __name__ == "__main__":
    unittest.main()
