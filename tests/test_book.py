import random
import string
import unittest

from haulbell.boxes import Boxes
from haulbell.book import Book, count_of, flat, paths
from haulbell.deeds import Add, Deed, Set, Write
from haulbell.errors import HaulError, NoFlat, NoName
from haulbell.hops import Hop
from haulbell.items import Do, Times, When
from haulbell.longs import Copy, Fill, Seek, Turn
from haulbell.machine import Machine
from haulbell.store import Store
from helper import block_by, book_by, boxes_by, deed_of, laid, no_texts, refused, store_by


def book_of(**blocks):
    book = Book()
    for word, block in blocks.items():
        book.name(word, block)
    return book


def words_of(deeds):
    return [" ".join(deed.words()) for deed in deeds]


def all_names(block):
    names = []
    for item in block:
        if isinstance(item, Do):
            names.append(item.told()[1])
        elif not isinstance(item, Deed):
            for part in item.told()[2:]:
                names += all_names(part)
    return names


class Name(unittest.TestCase):
    def no_name(self, book, word, block, said):
        with self.subTest(repr((word, said))):
            self.assertIs(refused(self, NoName, book.name, word, block).word, said)

    def test_names(self):
        book = Book()
        for word in ("a", "z", "abcdefgh", "stuvwxyz", "do", "times"):
            self.assertIsNone(book.name(word, [Copy()]))
            self.assertEqual(words_of(flat(book, [Do(word)])), ["copy"])

    def test_every_small_letter(self):
        for letter in string.ascii_lowercase:
            self.assertEqual(count_of(book_of(**{letter: [Copy()]}), [Do(letter)]), 1)

    def test_what_is_no_name(self):
        book = Book()
        texts = ["", "abcdefghi", "a" * 4000, "A", "aB", "a1", "1", "a b", " a", "a ", "a_b", "a-b", "-", "~", "a\n",
                 "\u00e4", "\u03b1", "\u00aa", "\uff41"]
        for word in no_texts() + texts + [Book(), Do("a"), Copy(), Store([1])]:
            self.no_name(book, word, [Copy()], word)
            self.no_name(book, word, [Do("unknown")], word)
        for word in ("a", "abcdefgh"):
            book.name(word, [Copy()])

    def test_names_that_are_taken(self):
        book = book_of(a=[Copy()], empty=[])
        for word in ("a", "empty"):
            self.no_name(book, word, [Fill()], word)
            self.no_name(book, word, [], word)
            self.no_name(book, word, [Do("unknown")], word)
        self.assertEqual(words_of(flat(book, [Do("a"), Do("empty")])), ["copy"])

    def test_no_block_is_in_itself(self):
        book = Book()
        for block in ([Do("a")], [Copy(), Times(0, [Do("a")])], [When(1, [], [Do("a")])]):
            with self.assertRaises(NoName) as caught:
                book.name("a", block)
            self.assertEqual(caught.exception.word, "a")
        book.name("a", [Copy()])
        self.assertEqual(refused(self, NoName, book.name, "b", [Do("a"), Do("b")]).word, "b")

    UNKNOWN = [
        [Do("x")], [Copy(), Do("a"), Do("x"), Do("y")], [Times(3, [Do("x")]), Do("y")], [Times(0, [Copy(), Do("x")])],
        [Times(0, [Times(0, [Times(0, [Do("x")])])])], [When(1, [Do("x")], [Do("y")])], [When(0, [Do("x")], [Do("y")])],
        [When(0, [Do("a")], [Do("x")]), Do("y")], [When(1, [], [Times(1, [When(0, [Do("x")], [Do("y")])])])],
        [When(0, [When(1, [Copy()], [Do("x")])], [Do("y")])],
        [Do("a"), When(1, [Do("a")]), Times(2, [Do("x"), Do("y")])],
    ]

    def test_blocks_that_name_what_the_book_has_not(self):
        for block in self.UNKNOWN:
            book = book_of(a=[Copy()])
            self.assertEqual(refused(self, NoName, book.name, "b", block).word, "x")
            book.name("x", [Fill()])
            if "y" in all_names(block):
                self.assertEqual(refused(self, NoName, book.name, "b", block).word, "y")
                book.name("y", [Turn()])
            self.assertIsNone(book.name("b", block))

    def test_count_of_flat_and_paths_likewise(self):
        for block in self.UNKNOWN:
            for call in (count_of, flat, paths):
                self.assertEqual(refused(self, NoName, call, book_of(a=[Copy()]), block).word, "x")

    def test_no_name_goes_ahead_of_no_flat(self):
        book = book_of(many=[Times(9, [Copy()] * 24)])
        for block in ([Times(0, [Do("x")])], [Do("many"), Do("x")], [Copy()] * 25 + [Do("x")]):
            for call in (count_of, flat, paths):
                self.assertEqual(refused(self, NoName, call, book, block).word, "x")

    def test_what_was_refused_changes_nothing_and_made_good_is_taken(self):
        book, block = Book(), [Copy(), Do("x")]
        refused(self, NoName, book.name, "a", block)
        self.assertEqual(refused(self, NoName, count_of, book, [Do("a")]).word, "a")
        self.assertEqual(len(block), 2)
        book.name("x", [Fill()])
        book.name("a", block)
        self.assertEqual(words_of(flat(book, [Do("a")])), ["copy", "fill"])

    def test_the_list_handed_in_is_free_of_the_book(self):
        block = [Copy(), Fill()]
        book = book_of(a=block)
        block.append(Do("x"))
        block[0] = Turn()
        self.assertEqual(words_of(flat(book, [Do("a")])), ["copy", "fill"])
        self.assertEqual(count_of(book, [Do("a")]), 2)
        book.name("b", [Do("a")])
        self.assertEqual(len(block), 3)

    def test_two_books_know_nothing_of_one_another(self):
        one, other = book_of(a=[Copy()]), book_of(a=[Fill()], b=[Turn()])
        self.assertEqual(words_of(flat(one, [Do("a")])), ["copy"])
        self.assertEqual(words_of(flat(other, [Do("a")])), ["fill"])
        self.assertEqual(refused(self, NoName, flat, one, [Do("b")]).word, "b")

    def test_six_names_of_six_blocks(self):
        book, last = Book(), []
        for word in ("one", "two", "three", "four", "five", "six"):
            book.name(word, last + [Copy()])
            last = [Do(word)]
        self.assertEqual(count_of(book, last), 6)
        self.assertEqual(paths(book, [Fill()] + last), [(0,), (1, 0, 0, 0, 0, 0, 0), (1, 0, 0, 0, 0, 1),
                                                       (1, 0, 0, 0, 1), (1, 0, 0, 1), (1, 0, 1), (1, 1)])


class Flat(unittest.TestCase):
    def comes_to(self, book, block, words, ways):
        for turn in range(2):
            self.assertEqual(count_of(book, block), len(words))
            self.assertEqual(words_of(flat(book, block)), words)
            self.assertEqual(paths(book, block), ways)
        self.assertIs(type(count_of(book, block)), int)
        self.assertTrue(all(type(path) is tuple for path in paths(book, block)))

    def test_deeds(self):
        self.comes_to(Book(), [Copy(), Hop(3, 1), Set("left", 2)], ["copy", "hop 3 if 1", "set left 2"],
                      [(0,), (1,), (2,)])

    def test_the_very_deeds(self):
        deeds = [Copy(), Hop(3, 1), Set("left", 2), Copy()]
        book = book_of(a=deeds[:2])
        laid_flat = flat(book, [Do("a"), Times(2, deeds[2:3]), When(1, deeds[3:])])
        self.assertEqual(len(laid_flat), 6)
        for place, deed in ((0, deeds[0]), (1, deeds[1]), (2, deeds[2]), (3, deeds[2]), (5, deeds[3])):
            self.assertIs(laid_flat[place], deed)

    def test_do(self):
        book = book_of(a=[Copy(), Fill()], b=[Turn(), Do("a")], none=[])
        self.comes_to(book, [Do("b"), Do("none"), Seek(), Do("a")],
                      ["turn", "copy", "fill", "seek", "copy", "fill"],
                      [(0, 0), (0, 1, 0), (0, 1, 1), (2,), (3, 0), (3, 1)])

    def test_times(self):
        self.comes_to(Book(), [Times(2, [Copy(), Fill()]), Times(0, [Turn()]), Times(1, [Seek()]), Times(9, [])],
                      ["copy", "fill", "copy", "fill", "seek"], [(0, 0, 0), (0, 0, 1), (0, 1, 0), (0, 1, 1), (2, 0, 0)])
        self.comes_to(Book(), [Times(2, [Times(2, [Copy()])])], ["copy"] * 4,
                      [(0, 0, 0, 0, 0), (0, 0, 0, 1, 0), (0, 1, 0, 0, 0), (0, 1, 0, 1, 0)])

    def test_when(self):
        for on in (0, 1):
            self.comes_to(Book(), [When(on, [Copy(), Fill()])], [f"hop 2 if {1 - on}", "copy", "fill"],
                          [(0,), (0, 0, 0), (0, 0, 1)])
            self.comes_to(Book(), [Seek(), When(on, [Copy()], [Fill(), Turn()])],
                          ["seek", f"hop 2 if {1 - on}", "copy", "hop 2", "fill", "turn"],
                          [(0,), (1,), (1, 0, 0), (1, 2), (1, 1, 0), (1, 1, 1)])

    def test_when_of_empty_blocks(self):
        self.comes_to(Book(), [When(1, [])], ["hop 0 if 0"], [(0,)])
        self.comes_to(Book(), [When(1, [], [])], ["hop 0 if 0"], [(0,)])
        self.comes_to(Book(), [When(1, [], [Copy()])], ["hop 1 if 0", "hop 1", "copy"], [(0,), (0, 2), (0, 1, 0)])

    def test_when_with_an_other_block_that_comes_to_no_deed(self):
        book = book_of(none=[])
        for other in ([Times(0, [Copy()])], [Do("none")], [Times(3, [Do("none")]), Do("none")]):
            self.comes_to(book, [When(0, [Copy()], other)], ["hop 2 if 1", "copy", "hop 0"], [(0,), (0, 0, 0), (0, 2)])

    def test_all_within_one_another(self):
        book = book_of(a=[When(1, [Copy()], [Times(2, [Fill()])])])
        block = [Times(2, [When(0, [Do("a")])]), Turn()]
        words = ["hop 5 if 1", "hop 2 if 0", "copy", "hop 2", "fill", "fill"]
        ways = [(), (0, 0, 0), (0, 0, 0, 0, 0), (0, 0, 0, 2), (0, 0, 0, 1, 0, 0, 0), (0, 0, 0, 1, 0, 1, 0)]
        self.comes_to(book, block, words * 2 + ["turn"],
                      [(0, turn, 0) + path for turn in (0, 1) for path in ways] + [(1,)])

    def test_hops_among_the_items_stay_as_they_are(self):
        self.comes_to(Book(), [Times(2, [Hop(5)]), When(1, [Hop(24, 0)], [Hop(0, 1)])],
                      ["hop 5", "hop 5", "hop 2 if 0", "hop 24 if 0", "hop 1", "hop 0 if 1"],
                      [(0, 0, 0), (0, 1, 0), (1,), (1, 0, 0), (1, 2), (1, 1, 0)])

    def test_told_lists_are_new_ones(self):
        book, block = book_of(a=[Copy(), Fill()]), [Do("a"), When(1, [Turn()])]
        kept = (words_of(flat(book, block)), paths(book, block))
        flat(book, block).clear()
        flat(book, block)[0] = None
        paths(book, block).pop()
        self.assertEqual((words_of(flat(book, block)), paths(book, block)), kept)
        self.assertEqual(len(block), 2)

    def test_the_same_block_twice(self):
        block = [Copy(), Times(2, [Fill()])]
        self.comes_to(book_of(a=block, b=block), [Do("a"), Do("b"), Do("a")], ["copy", "fill", "fill"] * 3,
                      [(place,) + path for place in range(3) for path in ((0,), (1, 0, 0), (1, 1, 0))])
        item = Times(2, [Turn()])
        self.comes_to(Book(), [item, item], ["turn"] * 4, [(0, 0, 0), (0, 1, 0), (1, 0, 0), (1, 1, 0)])


class Bounds(unittest.TestCase):
    def no_flat(self, book, block, many):
        self.assertEqual(count_of(book, block), many)
        for call in (flat, paths):
            self.assertEqual(refused(self, NoFlat, call, book, block).many, many)

    def test_none(self):
        book = book_of(none=[])
        for block in ([], [Times(0, [Copy()])], [Times(9, [])], [Do("none")], [Times(9, [Do("none")] * 24)] * 24):
            self.no_flat(book, block, 0)

    def test_one_and_twenty_four(self):
        book = book_of(six=[Copy()] * 6)
        blocks = [[Copy()] * 24, [Do("six")] * 4, [Times(4, [Do("six")])], [When(1, [Do("six")] * 3, [Copy()] * 4)],
                  [When(1, [Do("six")] * 3 + [Copy()] * 5)], [When(1, [], [Do("six")] * 3 + [Copy()] * 4)]]
        for block in blocks:
            self.assertEqual((count_of(book, block), len(flat(book, block)), len(paths(book, block))), (24, 24, 24))
            self.no_flat(book, block + [Copy()], 25)
            self.no_flat(book, [Times(2, block)], 48)
        for block in ([Copy()], [When(0, [])], [Times(1, [Copy()])]):
            self.assertEqual((count_of(book, block), len(flat(book, block)), len(paths(book, block))), (1, 1, 1))

    def test_twenty_five(self):
        for block in ([Copy()] * 25, [Times(5, [Copy()] * 5)], [When(1, [Copy()] * 24)], [When(1, [], [Copy()] * 23)],
                      [When(1, [Copy()] * 23, [Times(0, [])])]):
            self.no_flat(Book(), block, 25)

    def test_great_counts(self):
        block = [Copy()] * 24
        for depth in range(3):
            block = [Times(9, block)]
        self.no_flat(Book(), block, 24 * 9 ** 3)
        book, many, last = Book(), 1, Copy()
        for word in ("a", "b", "c", "d", "e", "f"):
            book.name(word, [Times(9, [Times(9, [Times(9, [last] * 24)])])])
            last, many = Do(word), many * 24 * 9 ** 3
            self.no_flat(book, [last], many)
        self.no_flat(book, [last, last, Copy()], 2 * many + 1)
        self.no_flat(book, [When(1, [last], [last])], 2 * many + 2)

    def test_wide_blocks(self):
        block = [Copy()] * 24
        for depth in range(3):
            block = [Times(9, block)] * 24
        self.no_flat(Book(), block, 24 * (24 * 9) ** 3)

    def test_great_blocks_that_are_never_done(self):
        book, last = Book(), Copy()
        for word in ("a", "b", "c", "d", "e", "f"):
            book.name(word, [Times(9, [Times(9, [Times(9, [last] * 24)])])])
            last = Do(word)
        block = [Times(0, [last]), Times(3, [Times(0, [last, last])]), Fill()]
        self.assertEqual(words_of(flat(book, block)), ["fill"])
        self.assertEqual(paths(book, block), [(2,)])

    def test_great_blocks_of_no_deeds(self):
        book, last = Book(), Times(0, [Copy()])
        for word in ("a", "b", "c", "d", "e", "f"):
            book.name(word, [Times(9, [Times(9, [last] * 24)] * 24)])
            last = Do(word)
        block = [Times(9, [last] * 24), Fill(), When(1, [last], [last])]
        self.assertEqual(words_of(flat(book, block)), ["fill", "hop 1 if 0", "hop 0"])
        self.assertEqual(paths(book, block), [(1,), (2,), (2, 2)])


class AgainstTheModel(unittest.TestCase):
    def test_many_blocks(self):
        fitting = 0
        for seed in range(1500):
            chance = random.Random(seed)
            book, blocks = book_by(chance, 3)
            block = block_by(chance, chance.randrange(1, 5), list(blocks), 5)
            pairs = laid(blocks, block)
            self.assertEqual(count_of(book, block), len(pairs))
            if 1 <= len(pairs) <= 24:
                fitting += 1
                self.assertEqual(paths(book, block), [path for path, deed in pairs])
                self.assertEqual(len(set(paths(book, block))), len(pairs))
                for one, other in zip(flat(book, block), [deed for path, deed in pairs]):
                    if isinstance(other, str):
                        self.assertEqual(" ".join(one.words()), other)
                    else:
                        self.assertIs(one, other)
            else:
                self.assertEqual(refused(self, NoFlat, flat, book, block).many, len(pairs))
                self.assertEqual(refused(self, NoFlat, paths, book, block).many, len(pairs))
        self.assertGreater(fitting, 500)


def no_hop(chance):
    """Some deed that is no Hop."""
    while True:
        deed = deed_of(chance)
        if not isinstance(deed, Hop):
            return deed


def go_through(blocks, block, boxes, store):
    """Does a block without Hops item by item, as [31] tells what its items stand for."""
    for item in block:
        told = ("deed",) if isinstance(item, Deed) else item.told()
        if told[0] == "deed":
            while item.step(boxes, store) == 0:
                pass
        elif told[0] == "do":
            go_through(blocks, blocks[told[1]], boxes, store)
        elif told[0] == "times":
            for turn in range(told[1]):
                go_through(blocks, told[2], boxes, store)
        else:
            go_through(blocks, told[2] if boxes.holds("met") == told[1] else told[3], boxes, store)


class LaidFlat(unittest.TestCase):
    """A machine of the deeds laid flat does what the items stand for."""

    def test_a_when(self):
        for on in (0, 1):
            for met in (0, 1):
                block = [When(on, [Set("sign", 5), Write("sign")], [Set("sign", 6)]), Add("here", 1)]
                machine = Machine(flat(Book(), block), Store([7]), Boxes(0, 0, 0, 1, 0, met))
                self.assertEqual(machine.run(99)[0], "end")
                sign, cells = (5, [5]) if on == met else (6, [7])
                self.assertEqual(machine.state()[1:], ((1, 0, 0, 1, sign, met), cells))

    def test_many_blocks(self):
        ended = stopped = 0
        for seed in range(1500):
            chance = random.Random(seed)
            book, blocks = book_by(chance, 3, no_hop)
            block = block_by(chance, 4, list(blocks), 5, no_hop)
            if 1 <= count_of(book, block) <= 24:
                store, boxes = store_by(chance), boxes_by(chance)
                machine = Machine(flat(book, block), store, boxes)
                word = machine.run(10 ** 6)[0]
                try:
                    go_through(blocks, block, boxes, store)
                    ended += 1
                except HaulError:
                    stopped += 1
                    self.assertEqual(word, "stop")
                self.assertEqual(machine.state()[1:], (boxes.told(), store.told()))
                self.assertEqual(word == "end", machine.why() is None)
        self.assertGreater(min(ended, stopped), 100)


if __name__ == "__main__":
    unittest.main()
