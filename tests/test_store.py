import unittest

from haulbell.boxes import Boxes
from haulbell.errors import NoLeave, NoStore, Stop
from haulbell.longs import Copy
from haulbell.store import Store
from helper import BIG, no_texts, no_wholes, refused

LEAVES = ["open", "look", "shut"]
NO_CELLS = [-1, -2, -3, -4, 3, 4, 59, 60, 10 ** 9, -10 ** 9, BIG, -BIG]


def three_leaves():
    store = Store([7, 8, 9])
    store.leave(1, 2, "look")
    store.leave(2, 3, "shut")
    return store


class Made(unittest.TestCase):
    def test_of_one_and_of_sixty(self):
        for cells in ([0], [10 ** 9], list(range(60)), [10 ** 9] * 60):
            store = Store(cells)
            self.assertEqual(store.size(), len(cells))
            self.assertEqual(store.told(), cells)
            self.assertEqual(store.leaves(), ["open"] * len(cells))

    def test_what_is_no_list_of_one_to_sixty_things(self):
        things = no_wholes() + [0, 5, BIG, Boxes(), Store([1]), Copy(), (1, 2, 3), "123", {0: 1}]
        for thing in [thing for thing in things if not isinstance(thing, list)] + [[], [0] * 61, [0] * 300]:
            with self.subTest(repr(thing)):
                self.assertEqual(refused(self, NoStore, Store, thing).at, -1)

    def test_the_length_goes_ahead_of_the_things(self):
        for thing in ([None] * 61, ["x"] * 300, [0] * 60 + [-1]):
            self.assertEqual(refused(self, NoStore, Store, thing).at, -1)

    def test_the_place_of_the_first_thing_that_is_no_content(self):
        for spoilt in no_wholes() + [-1, 10 ** 9 + 1, BIG, -BIG, Store([1]), Boxes()]:
            for size, at in ((1, 0), (5, 0), (5, 2), (5, 4), (60, 59)):
                cells = [3] * size
                cells[at] = spoilt
                with self.subTest(repr(spoilt), size=size, at=at):
                    self.assertEqual(refused(self, NoStore, Store, cells).at, at)

    def test_of_two_the_first_one(self):
        self.assertEqual(refused(self, NoStore, Store, [0, 1, -1, None]).at, 2)
        self.assertEqual(refused(self, NoStore, Store, [0, True, -1]).at, 1)

    def test_made_good_it_is_taken(self):
        cells = [1, None, 3]
        refused(self, NoStore, Store, cells)
        self.assertEqual(cells, [1, None, 3])
        cells[1] = 2
        self.assertEqual(Store(cells).told(), [1, 2, 3])

    def test_it_keeps_a_copy(self):
        cells = [1, 2, 3]
        store = Store(cells)
        cells[0] = 9
        cells.append(4)
        self.assertEqual(store.told(), [1, 2, 3])
        store.put(1, 5)
        self.assertEqual(cells, [9, 2, 3, 4])

    def test_told_lists_are_new_ones(self):
        store = Store([1, 2])
        for ask in (store.told, store.leaves):
            first = ask()
            kept = list(first)
            self.assertIsNot(ask(), first)
            first[0] = "spoilt"
            first.append(0)
            self.assertEqual(ask(), kept)
        self.assertEqual(store.look(0), 1)


class Leave(unittest.TestCase):
    def test_each_stretch_of_the_store(self):
        for word in LEAVES:
            for before in LEAVES:
                for low in range(5):
                    for behind in range(low, 5):
                        store = Store([1, 2, 3, 4])
                        store.leave(0, 4, before)
                        self.assertIsNone(store.leave(low, behind, word))
                        leaves = [word if low <= cell < behind else before for cell in range(4)]
                        self.assertEqual(store.leaves(), leaves)
                        self.assertEqual(store.told(), [1, 2, 3, 4])

    def test_none_and_all_of_sixty(self):
        store = Store([0] * 60)
        for low in (0, 30, 60):
            store.leave(low, low, "shut")
        self.assertEqual(store.leaves(), ["open"] * 60)
        store.leave(0, 60, "look")
        self.assertEqual(store.leaves(), ["look"] * 60)
        store.leave(59, 60, "shut")
        self.assertEqual(store.leaves(), ["look"] * 59 + ["shut"])

    def spoil(self, low, behind, word):
        store = three_leaves()
        made = refused(self, NoLeave, store.leave, low, behind, word)
        self.assertIs(made.low, low)
        self.assertIs(made.behind, behind)
        self.assertIs(made.word, word)
        self.assertEqual(store.leaves(), LEAVES)
        self.assertEqual(store.told(), [7, 8, 9])

    def test_stretches_that_are_none_of_the_store(self):
        for low, behind in ((-1, 2), (2, 1), (0, 4), (4, 4), (3, 4), (-1, -1), (1, 0), (0, BIG), (-BIG, 2), (BIG, BIG)):
            with self.subTest(low=low, behind=behind):
                self.spoil(low, behind, "open")

    def test_things_that_are_no_whole_numbers(self):
        for thing in no_wholes():
            with self.subTest(repr(thing)):
                self.spoil(thing, 3, "open")
                self.spoil(0, thing, "open")
                self.spoil(thing, thing, "open")

    def test_words_that_are_none(self):
        for thing in no_texts() + ["", "Open", "open ", "put", "looks", "o", "shu", "open look"]:
            with self.subTest(repr(thing)):
                self.spoil(0, 3, thing)
                self.spoil(1, 1, thing)

    def test_all_spoilt_at_once(self):
        self.spoil(None, [], {})

    def test_made_good_it_is_taken(self):
        store = Store([1, 2])
        refused(self, NoLeave, store.leave, 0, 3, "shut")
        store.leave(0, 2, "shut")
        self.assertEqual(store.leaves(), ["shut", "shut"])


class LookPutMay(unittest.TestCase):
    def test_what_each_leave_lets(self):
        store = three_leaves()
        self.assertEqual([store.may("look", cell) for cell in range(3)], [True, True, False])
        self.assertEqual([store.may("put", cell) for cell in range(3)], [True, False, False])
        self.assertEqual([store.look(0), store.look(1)], [7, 8])
        self.assertIsNone(store.put(0, 5))
        self.assertEqual(store.told(), [5, 8, 9])

    def stops(self, store, deed, cell):
        before = (store.told(), store.leaves())
        things = (cell,) if deed == "look" else (cell, 1)
        made = refused(self, Stop, getattr(store, deed), *things)
        self.assertEqual((made.deed, made.cell), (deed, cell))
        self.assertEqual((store.told(), store.leaves()), before)
        self.assertIs(store.may(deed, cell), False)

    def test_what_a_leave_does_not_let(self):
        store = three_leaves()
        self.stops(store, "look", 2)
        self.stops(store, "put", 1)
        self.stops(store, "put", 2)

    def test_cells_that_are_not_there(self):
        for word in LEAVES:
            store = Store([7, 8, 9])
            store.leave(0, 3, word)
            for cell in NO_CELLS:
                with self.subTest(word, cell=cell):
                    self.stops(store, "look", cell)
                    self.stops(store, "put", cell)

    def test_both_ends(self):
        store = Store(list(range(60)))
        self.assertEqual([store.look(0), store.look(59)], [0, 59])
        store.put(0, 10 ** 9)
        store.put(59, 0)
        self.assertEqual(store.told(), [10 ** 9] + list(range(1, 59)) + [0])
        self.stops(store, "look", 60)
        self.stops(store, "put", -1)

    def test_asking_changes_nothing(self):
        store = three_leaves()
        for turn in range(2):
            self.assertIs(store.may("put", 1), False)
            self.assertIs(store.may("look", 1), True)
            self.assertEqual(store.look(1), 8)
            self.assertEqual((store.told(), store.leaves()), ([7, 8, 9], LEAVES))

    def test_opened_again_it_is_taken(self):
        store = three_leaves()
        self.stops(store, "put", 2)
        store.leave(2, 3, "open")
        store.put(2, 4)
        self.assertEqual(store.look(2), 4)


class Copied(unittest.TestCase):
    def test_the_same_contents_and_leaves(self):
        store = three_leaves()
        store.put(0, 1)
        other = store.copied()
        self.assertIs(type(other), Store)
        self.assertEqual((other.told(), other.leaves(), other.size()), ([1, 8, 9], LEAVES, 3))

    def test_free_of_the_first_both_ways(self):
        for turned in (False, True):
            store = three_leaves()
            pair = [store, store.copied()]
            one, other = pair[::-1] if turned else pair
            one.put(0, 3)
            one.leave(0, 3, "shut")
            self.assertEqual((other.told(), other.leaves()), ([7, 8, 9], LEAVES))
            other.leave(0, 3, "open")
            other.put(2, 4)
            self.assertEqual((one.told(), one.leaves()), ([3, 8, 9], ["shut"] * 3))

    def test_two_stores_of_one_list(self):
        cells = [1, 2]
        one, other = Store(cells), Store(cells)
        one.put(0, 5)
        one.leave(0, 1, "shut")
        self.assertEqual((other.told(), other.leaves()), ([1, 2], ["open", "open"]))


if __name__ == "__main__":
    unittest.main()
