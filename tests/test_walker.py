import itertools
import random
import unittest

from haulbell.book import Book, count_of, flat, paths
from haulbell.boxes import Boxes
from haulbell.deeds import Add, Read, Set, Take, Write
from haulbell.errors import NoFlat, NoLeave, NoName, NoPlace
from haulbell.hops import Hop
from haulbell.items import Do, Times, When
from haulbell.longs import Copy, Fill, Match, Seek, Shift, Turn
from haulbell.machine import Machine
from haulbell.store import Store
from haulbell.walker import Walker
from helper import BIG, laid, no_texts, no_wholes, refused, run_model, store_of, walker_things

AT_FIRST = (0, 0, 0, 1, 0, 0)


def book_of(**blocks):
    book = Book()
    for word, block in blocks.items():
        book.name(word, block)
    return book


def no_paths():
    """Things of other kinds than a path, and tuples of such things; no whole numbers alone in any tuple."""
    things = [thing for thing in no_wholes() if thing is not None and thing != ()]
    others = [0, 1, -1, BIG, Store([1]), Boxes(), Copy(), Book(), Do("a"), Times(1, [Copy()]), [0, 0], [[0]], "0"]
    lists = [thing for thing in things + others if not isinstance(thing, tuple)]
    return lists + [(thing,) for thing in no_wholes()] + [(0, thing) for thing in no_wholes()] + [((0,),), ([0],)]


def every_kind():
    """A book and a block with all kinds of items, within one another; Hops that lead out of and into blocks."""
    book = book_of(wipe=[Set("left", 2), Fill()], none=[])
    item = Times(2, [Add("sign", 1)])
    other = [Hop(2, 0), Times(2, [Do("none"), Take("here", "met")])]
    block = [item, Times(0, [Copy()]), Do("wipe"), When(1, [Hop(3), Seek()], other), item,
             When(0, [When(1, [Copy()], [Shift()])]), Do("none"), Write("sign"), Hop(24, 1), Turn()]
    return book, block


class Made(unittest.TestCase):
    BLOCK = [Set("left", 2), Times(2, [Fill(), When(1, [Copy()], [Turn()])]), Do("a")]
    PATHS = [(0,), (1, 0, 0), (1, 0, 1), (1, 0, 1, 0, 0), (1, 0, 1, 2), (1, 0, 1, 1, 0),
             (1, 1, 0), (1, 1, 1), (1, 1, 1, 0, 0), (1, 1, 1, 2), (1, 1, 1, 1, 0), (2, 0), (2, 1)]

    def book(self):
        return book_of(a=[Seek(), Match()])

    def walker(self, path):
        return Walker(self.book(), self.BLOCK, Store([7, 8, 9]), Boxes(), path)

    def test_at_the_beginning(self):
        walker = self.walker(())
        self.assertEqual((walker.where(), walker.state()), ((0,), ((0,), AT_FIRST, [7, 8, 9])))

    def test_at_the_end(self):
        walker = self.walker(None)
        for turn in range(2):
            self.assertIsNone(walker.where())
            self.assertEqual(walker.state(), (None, AT_FIRST, [7, 8, 9]))
            self.assertEqual((walker.step(), walker.run(5), walker.run(0), walker.why()),
                             ("end", ("end", 0), ("end", 0), None))

    def test_at_each_path(self):
        self.assertEqual(paths(self.book(), self.BLOCK), self.PATHS)
        for path in self.PATHS:
            walker = self.walker(path)
            self.assertEqual((walker.where(), walker.state()), (path, (path, AT_FIRST, [7, 8, 9])))
            self.assertIs(type(walker.where()), tuple)

    def no_place(self, path):
        with self.subTest(repr(path)):
            self.assertIs(refused(self, NoPlace, self.walker, path).at, path)

    def test_what_is_no_path(self):
        for path in no_paths():
            self.no_place(path)

    def test_tuples_of_numbers_that_are_no_path(self):
        for path in [(3,), (-1,), (BIG,), (-BIG, 0), (0, 0), (0,) * 300, (2, 2), (2, -1), (2, 0, 0), (1, 2, 0),
                     (1, -1, 0)]:
            self.no_place(path)

    def test_paths_that_are_too_long_or_too_short(self):
        for path in self.PATHS:
            for more in (0, 1, -1):
                if path + (more,) not in self.PATHS:
                    self.no_place(path + (more,))
            if path[:-1] not in self.PATHS + [()]:
                self.no_place(path[:-1])

    def test_a_tuple_with_a_truth_in_it(self):
        for path in self.PATHS:
            for place, number in enumerate(path):
                if number in (0, 1):
                    self.no_place(path[:place] + (bool(number),) + path[place + 1:])

    def test_a_list_of_the_numbers_of_a_path(self):
        for path in self.PATHS + [()]:
            self.no_place(list(path))

    def test_no_name_ahead_of_no_flat_ahead_of_no_place(self):
        book = book_of(many=[Times(9, [Copy()] * 24)], none=[])
        for path in no_paths() + [(), None, (0,), (5,), ((),)]:
            for block in ([Do("x")], [Do("many"), Do("x")], [Times(0, [Do("x"), Do("y")])],
                          [When(1, [Do("x")], [Do("y")])], [When(1, [], [Do("x")]), Do("y")]):
                self.assertEqual(refused(self, NoName, Walker, book, block, Store([1]), Boxes(), path).word, "x")
            for block, many in (([], 0), ([Do("none")], 0), ([Times(0, [Copy()])], 0), ([Copy()] * 25, 25),
                                ([Do("many")], 216), ([When(1, [], [Copy()] * 23)], 25)):
                self.assertEqual(refused(self, NoFlat, Walker, book, block, Store([1]), Boxes(), path).many, many)

    def test_of_one_and_of_twenty_four_deeds(self):
        for block, last in (([Copy()], (0,)), ([Copy()] * 24, (23,)), ([Times(8, [Copy()] * 3)], (0, 7, 2)),
                            ([When(0, [])], (0,))):
            walker = Walker(Book(), block, Store([1]), Boxes(), last)
            self.assertEqual((walker.where(), walker.step(), walker.where()), (last, "on", None))

    def test_made_good_it_is_taken(self):
        book, block, store, boxes = Book(), [Copy(), Do("x")], Store([1]), Boxes()
        refused(self, NoName, Walker, book, block, store, boxes, (1,))
        book.name("x", [Fill()])
        refused(self, NoPlace, Walker, book, block, store, boxes, (1,))
        self.assertEqual((len(block), store.told(), boxes.told()), (2, [1], AT_FIRST))
        self.assertEqual(Walker(book, block, store, boxes, (1, 0)).where(), (1, 0))

    def test_what_is_handed_in_is_free_of_the_walker(self):
        book, block = book_of(a=[Write("sign")]), [Set("sign", 5), Do("a"), Read("left")]
        store, boxes = store_of([7, 8], ["open", "look"]), Boxes(1)
        walker = Walker(book, block, store, boxes, ())
        self.assertEqual(walker.run(3), ("end", 3))
        walker.leave(0, 2, "shut")
        self.assertEqual((store.told(), store.leaves(), boxes.told()), ([7, 8], ["open", "look"], (1, 0, 0, 1, 0, 0)))
        self.assertEqual((len(block), count_of(book, [Do("a")]), count_of(book, block)), (3, 1, 3))

    def test_the_walker_is_free_of_what_is_handed_in(self):
        inner = [Write("sign"), Read("left")]
        book, block = book_of(a=inner), [Set("sign", 5), Do("a")]
        store, boxes = store_of([7, 8], ["open", "look"]), Boxes(1)
        walker = Walker(book, block, store, boxes, ())
        inner[0] = Turn()
        block[1] = Copy()
        block.append(Fill())
        book.name("b", [Fill()])
        store.put(0, 9)
        store.leave(0, 2, "shut")
        boxes.give("there", 9)
        self.assertEqual(walker.state(), ((0,), (1, 0, 0, 1, 0, 0), [7, 8]))
        stood = []
        while walker.step() == "on":
            stood.append(walker.where())
        self.assertEqual(stood, [(1, 0), (1, 1), None])
        self.assertEqual(walker.state(), (None, (1, 0, 8, 1, 5, 0), [5, 8]))

    def test_two_walkers_of_one_store_and_boxes(self):
        store, boxes = Store([7, 8]), Boxes()
        one, other = [Walker(Book(), [Add("sign", 2), Write("sign")], store, boxes, ()) for turn in range(2)]
        self.assertEqual(one.run(9), ("end", 2))
        self.assertEqual(other.state(), ((0,), AT_FIRST, [7, 8]))
        self.assertEqual(other.step(), "on")
        self.assertEqual(one.state(), (None, (0, 0, 0, 1, 2, 0), [2, 8]))
        self.assertEqual(other.state(), ((1,), (0, 0, 0, 1, 2, 0), [7, 8]))


class Steps(unittest.TestCase):
    def stands(self, block, numbers, wanted, book=None, cells=(7, 8, 9)):
        walker = Walker(book or Book(), block, Store(list(cells)), Boxes(*numbers), ())
        stood = [walker.where()]
        while walker.step() == "on":
            stood.append(walker.where())
        self.assertEqual(stood, wanted)
        return walker

    def test_long_deeds_stay(self):
        self.stands([Times(2, [Set("left", 2), Fill()])], AT_FIRST,
                    [(0, 0, 0), (0, 0, 1), (0, 0, 1), (0, 1, 0), (0, 1, 1), (0, 1, 1)], cells=(1, 2, 3))
        self.stands([Times(2, [Set("left", 2), Fill()])], AT_FIRST,
                    [(0, 0, 0), (0, 0, 1), (0, 0, 1), (0, 1, 0), (0, 1, 1), (0, 1, 1), None], cells=(1, 2, 3, 4))

    def test_when(self):
        for on, met in itertools.product((0, 1), repeat=2):
            way = [(0,), (0, 0, 0), (0, 2)] if on == met else [(0,), (0, 1, 0)]
            walker = self.stands([When(on, [Set("sign", 5)], [Set("sign", 6)]), Add("here", 1)], (0, 0, 0, 1, 0, met),
                                 way + [(1,), None])
            self.assertEqual(walker.state(), (None, (1, 0, 0, 1, 5 if on == met else 6, met), [7, 8, 9]))
            way = [(0,), (0, 0, 0)] if on == met else [(0,)]
            self.stands([When(on, [Set("sign", 5)]), Add("here", 1)], (0, 0, 0, 1, 0, met), way + [(1,), None])

    def test_hops_out_of_a_block_and_into_another_one(self):
        self.stands([Times(2, [Hop(2), Add("sign", 1)])], AT_FIRST, [(0, 0, 0), (0, 1, 1), None])
        self.stands([Hop(2), When(1, [Add("here", 1), Add("here", 2)], [Add("here", 4)]), Turn()], AT_FIRST,
                    [(0,), (1, 0, 1), (1, 2), (2,), None])
        self.stands([Hop(4), When(1, [Add("here", 1), Add("here", 2)], [Add("here", 4)]), Turn()], AT_FIRST,
                    [(0,), (1, 1, 0), (2,), None])
        self.stands([Do("a"), Do("a")], AT_FIRST, [(0, 0), (1, 0), None], book_of(a=[Hop(1), Copy()]))
        self.stands([Copy(), Times(3, [Hop(24, 0), Copy()])], AT_FIRST, [(0,), (1, 0, 0), None])

    def test_times_of_0_and_empty_blocks(self):
        self.stands([Times(0, [Copy()]), When(0, [], [Times(0, [Copy()])]), Do("none"), Fill()], AT_FIRST,
                    [(1,), (1, 2), (3,), None], book_of(none=[]))

    def test_the_same_item_at_two_places(self):
        item = When(0, [Add("sign", 1)])
        self.stands([item, Times(2, [item, item])], AT_FIRST,
                    [(0,), (0, 0, 0), (1, 0, 0), (1, 0, 0, 0, 0), (1, 0, 1), (1, 0, 1, 0, 0),
                     (1, 1, 0), (1, 1, 0, 0, 0), (1, 1, 1), (1, 1, 1, 0, 0), None])

    def test_words(self):
        walker = Walker(Book(), [Set("left", 2), Fill()], store_of([7, 8], ["open", "look"]), Boxes(), ())
        self.assertEqual([walker.step() for turn in range(4)], ["on", "on", "stop", "stop"])
        walker.leave(1, 2, "open")
        self.assertEqual([walker.step() for turn in range(3)], ["on", "end", "end"])

    def test_run(self):
        block = [Times(2, [Set("left", 2), Fill()]), Add("left", -1)]
        for most in (0, 1, 5, 6, 7, 10 ** 6):
            told = ("bell", most) if most <= 6 else ("stop", 6)
            walker = Walker(Book(), block, Store([7, 8, 9, 10]), Boxes(), ())
            self.assertEqual(walker.run(most), told)
            self.assertIs(type(walker.run(0)), tuple)
        self.assertEqual(Walker(Book(), block, Store([7, 8, 9, 10]), Boxes(1, 1, 1), (1,)).run(1), ("end", 1))


class Stops(unittest.TestCase):
    def walker(self, deed, numbers, leaves, on=0):
        return Walker(Book(), [Times(2, [Hop(0), When(on, [deed])])], store_of([7, 8, 9], leaves), Boxes(*numbers), ())

    def test_each_cause(self):
        free = ["open"] * 3
        for deed, numbers, leaves, cause in (
                (Fill(), (0, 1, 1, 1, 5, 0), ["open", "look", "open"], ("put", 1)),
                (Copy(), (0, 1, 1, 1, 5, 0), ["shut", "open", "open"], ("look", 0)),
                (Copy(), (0, 3, 1, 1, 5, 0), free, ("put", 3)), (Seek(), (-1, 0, 1, 1, 5, 0), free, ("look", -1)),
                (Match(), (0, 3, 1, 1, 5, 0), free, ("look", 3)), (Turn(), (1, 0, 3, 1, 5, 0), free, ("look", 3)),
                (Shift(), (0, 1, 3, 1, 5, 0), free, ("put", 3)),
                (Add("left", -2), (0, 0, 1, 1, 5, 0), free, ("fit", "left")),
                (Set("way", 0), AT_FIRST, free, ("fit", "way")), (Read("met"), AT_FIRST, free, ("fit", "met")),
                (Write("here"), (-1, 0, 0, 1, 5, 0), free, ("fit", "here")),
                (Take("sign", "here"), (-1, 0, 0, 1, 5, 0), free, ("fit", "sign"))):
            walker = self.walker(deed, numbers, leaves)
            self.assertIsNone(walker.why())
            self.assertEqual(walker.run(9), ("stop", 2))
            for turn in range(2):
                told = walker.why()
                self.assertEqual(told, ((0, 0, 1, 0, 0),) + cause)
                self.assertIs(type(told), tuple)
                self.assertEqual(walker.state(), ((0, 0, 1, 0, 0), numbers, [7, 8, 9]))
                self.assertEqual((walker.step(), walker.run(3)), ("stop", ("stop", 0)))

    def test_mended_by_a_leave_and_gone_on_from(self):
        block = [When(0, [Set("left", 3), Copy()]), Set("sign", 4)]
        walker = Walker(Book(), block, store_of([1, 2, 3, 0, 0, 0], ["open"] * 4 + ["look", "shut"]), Boxes(0, 3), ())
        self.assertEqual(walker.run(9), ("stop", 3))
        self.assertEqual(walker.why(), ((0, 0, 1), "put", 4))
        self.assertIsNone(walker.leave(4, 5, "open"))
        self.assertIsNone(walker.why())
        self.assertEqual(walker.run(9), ("stop", 1))
        self.assertEqual(walker.why(), ((0, 0, 1), "put", 5))
        walker.leave(5, 6, "open")
        self.assertEqual(walker.run(9), ("end", 2))
        self.assertEqual(walker.state(), (None, (3, 6, 0, 1, 4, 0), [1, 2, 3, 1, 2, 3]))

    def test_mended_by_other_boxes_or_cells_and_gone_on_from(self):
        block = [Times(2, [Add("left", -1), Fill()])]
        walker = Walker(Book(), block, Store([1, 2]), Boxes(), ())
        self.assertEqual((walker.run(9), walker.why()), (("stop", 0), ((0, 0, 0), "fit", "left")))
        walker = Walker(Book(), block, Store([1, 2]), Boxes(0, 0, 4), walker.where())
        self.assertEqual((walker.run(9), walker.why()), (("stop", 3), ((0, 0, 1), "put", 2)))
        path, numbers, cells = walker.state()
        walker = Walker(Book(), block, Store(cells + [3]), Boxes(*numbers), path)
        self.assertEqual((walker.run(9), walker.why()), (("stop", 1), ((0, 1, 0), "fit", "left")))

    def test_no_leave(self):
        walker = self.walker(Fill(), (0, 0, 3, 1, 5, 0), ["open", "look", "shut"])
        spoilt = [(thing, 2, "open") for thing in no_wholes() + [-1, 3, 4, BIG, -BIG]]
        spoilt += [(1, thing, "open") for thing in no_wholes() + [-1, 0, 4, BIG, -BIG]]
        spoilt += [(0, 1, thing) for thing in no_texts() + ["", "Open", "open ", "put"]]
        for things in spoilt:
            made = refused(self, NoLeave, walker.leave, *things)
            self.assertTrue(made.low is things[0] and made.behind is things[1] and made.word is things[2])
        self.assertEqual((walker.run(9), walker.why()), (("stop", 3), ((0, 0, 1, 0, 0), "put", 1)))

    def test_asking_changes_nothing(self):
        book, block = every_kind()
        walker, twin = [Walker(book, block, Store([7, 8, 9, 10]), Boxes(0, 1), ()) for turn in range(2)]
        while True:
            for turn in range(3):
                walker.where(), walker.why(), walker.state(), walker.run(0)
            self.assertEqual((walker.where(), walker.state(), walker.why()), (twin.where(), twin.state(), twin.why()))
            word = walker.step()
            self.assertEqual(word, twin.step())
            if word != "on":
                break

    def test_what_state_tells_changed_behind_the_call(self):
        walker = Walker(Book(), [Set("left", 2), Fill()], Store([7, 8, 9]), Boxes(), ())
        walker.run(2)
        told = walker.state()
        kept = ((1,), (0, 1, 1, 1, 0, 0), [0, 8, 9])
        self.assertEqual(told, kept)
        self.assertEqual([type(thing) for thing in told], [tuple, tuple, list])
        told[2].clear()
        walker.state()[2].append(5)
        self.assertEqual(walker.state(), kept)
        told = walker.state()
        walker.run(9)
        self.assertEqual((told, walker.state()[2]), (kept, [0, 0, 9]))


class AgainstTheMachineOfFlat(unittest.TestCase):
    def follow(self, walker, machine, ways):
        """Asks both, step by step, up to the end or the stop."""
        ways, word = ways + [None], "on"
        while word == "on":
            at, numbers, cells = machine.state()
            why = machine.why()
            self.assertEqual(walker.where(), ways[at])
            self.assertEqual(walker.state(), (ways[at], numbers, cells))
            self.assertEqual(walker.why(), None if why is None else (ways[at],) + why[1:])
            word = machine.step()
            self.assertEqual(walker.step(), word)

    def test_every_kind_of_item(self):
        book, block = every_kind()
        ways, deeds = paths(book, block), flat(book, block)
        for store in (Store([1]), Store([0] * 12), Store(list(range(60))), store_of([3] * 9, ["look"] * 9)):
            for met, here in itertools.product((0, 1), (-1, 0, 5)):
                boxes = Boxes(here, 2, 0, 1, 1, met)
                self.follow(Walker(book, block, store, boxes, ()), Machine(deeds, store, boxes), ways)
                for at, path in enumerate(ways + [None]):
                    self.follow(Walker(book, block, store, boxes, path), Machine(deeds, store, boxes, at), ways)

    def test_step_by_step(self):
        for seed in range(500):
            book, blocks, block, store, boxes = walker_things(random.Random(seed))
            ways = [path for path, deed in laid(blocks, block)]
            self.follow(Walker(book, block, store, boxes, ()), Machine(flat(book, block), store, boxes), ways)

    def test_run_and_the_second_writing_of_the_steps(self):
        for seed in range(300):
            chance = random.Random(seed)
            book, blocks, block, store, boxes = walker_things(chance)
            pairs = laid(blocks, block)
            ways = [path for path, deed in pairs] + [None]
            words = [deed.split() if isinstance(deed, str) else deed.words() for path, deed in pairs]
            at = chance.choice([0, 0, len(pairs) // 2, len(pairs)])
            for most in (0, 1, 2, 5, 17, 10 ** 6):
                walker = Walker(book, block, store, boxes, ways[at])
                told, state, why = run_model(words, (at, boxes.told(), store.told()), store.leaves(), most)
                self.assertEqual(walker.run(most), told)
                self.assertEqual(walker.state(), (ways[state[0]],) + state[1:])
                self.assertEqual(walker.why(), None if why is None else (ways[why[0]],) + why[1:])

    def test_sums_of_runs(self):
        for seed in range(150):
            chance = random.Random(seed)
            book, blocks, block, store, boxes = walker_things(chance)
            bells = [chance.choice([0, 1, 1, 2, 3, 7, 20]) for bell in range(chance.randrange(1, 9))]
            one, other = [Walker(book, block, store, boxes, ()) for turn in range(2)]
            told = [one.run(bell) for bell in bells]
            self.assertEqual(sum(many for word, many in told), other.run(sum(bells))[1])
            self.assertEqual((one.state(), one.why()), (other.state(), other.why()))

    def test_a_walker_made_of_what_another_one_told_at_any_bell(self):
        for seed in range(150):
            book, blocks, block, store, boxes = walker_things(random.Random(seed))
            whole, broken = [Walker(book, block, store, boxes, ()) for turn in range(2)]
            told, steps, word = whole.run(10 ** 6), 0, "on"
            while word == "on":
                path, numbers, cells = broken.state()
                broken = Walker(book, block, store_of(cells, store.leaves()), Boxes(*numbers), path)
                word = broken.step()
                steps += word == "on"
            self.assertEqual((told, whole.state(), whole.why()), ((word, steps), broken.state(), broken.why()))

    def test_every_stop_by_a_leave_opened(self):
        for seed in range(150):
            book, blocks, block, store, boxes = walker_things(random.Random(seed))
            free = Machine(flat(book, block), Store(store.told()), boxes)
            walker, steps, last = Walker(book, block, store, boxes, ()), 0, free.run(10 ** 6)
            while True:
                word, many = walker.run(3)
                steps += many
                why = walker.why()
                if why is not None and why[1] != "fit" and why[2] in range(store.size()):
                    walker.leave(why[2], why[2] + 1, "open")
                elif word != "bell":
                    break
            self.assertEqual((word, steps) + walker.state()[1:], last + free.state()[1:])


if __name__ == "__main__":
    unittest.main()
