import itertools
import random
import unittest

from haulbell.boxes import Boxes
from haulbell.deeds import Add, Read, Set, Take, Write
from haulbell.errors import NotBlind
from haulbell.hops import Hop
from haulbell.likeness import alike
from haulbell.longs import Copy, Fill, Match, Seek, Shift, Turn
from helper import NAMES, blind_deed, blind_rows, boxes_by, left_behind, refused


def both_behind(one, other, boxes, cells):
    """The pairs of what both leave behind 0, 1, 2 .. steps; one that is at its end or stopped stays as it is."""
    first, second = left_behind(one, boxes, cells), left_behind(other, boxes, cells)
    longest = max(len(first), len(second))
    first += first[-1:] * (longest - len(first))
    second += second[-1:] * (longest - len(second))
    return list(zip(first, second))


def thing_of(left, right):
    for name, number, another in zip(NAMES, left[0], right[0]):
        if number != another:
            return ("box", name)
    return ("cell", [one == another for one, another in zip(left[1], right[1])].index(False))


def by_all_stores(one, other, boxes, size, contents):
    """What alike has to tell, by all stores of these contents, which are in order."""
    found = []
    for cells in itertools.product(contents, repeat=size):
        pairs = both_behind(one, other, boxes, list(cells))
        unlike = [bell for bell, (left, right) in enumerate(pairs) if left != right]
        if unlike:
            found.append((unlike[0], list(cells), thing_of(*pairs[unlike[0]])))
    if not found:
        return ("alike",)
    return ("parted",) + min(found, key=lambda parting: parting[:2])


# Deeds that leave the same boxes, often, but perhaps other contents.
TWINS = {
    "shift": [Add("left", -1), Add("left", -1), Copy()], "copy": [Shift()], "turn": [Add("left", -1), Shift()],
    "write": [Hop(0), Write("sign"), Write("met"), Write("left")], "hop": [Write("sign"), Write("left")],
}


def nearly(chance, rows):
    """Rows with one of these changed, left out, put in or exchanged, most often one that puts a cell."""
    rows, at = list(rows), chance.randrange(len(rows))
    twinned = [place for place, deed in enumerate(rows) if deed.words()[0] in TWINS]
    kind = chance.choice(["twin"] * 6 + ["other", "out", "in", "last", "swap"])
    if kind == "twin" and twinned:
        at = chance.choice(twinned)
        rows[at] = chance.choice(TWINS[rows[at].words()[0]])
    elif kind == "other":
        rows[at] = blind_deed(chance)
    elif kind == "out" and len(rows) > 1:
        rows.pop(at)
    elif kind == "in" and len(rows) < 24:
        rows.insert(at, chance.choice([Hop(0), Take("here", "here"), blind_deed(chance)]))
    elif kind == "last" and len(rows) < 24:
        rows.append(blind_deed(chance))
    else:
        rows[at], rows[-1] = rows[-1], rows[at]
    return rows


def hauls(chance, size):
    """Rows that haul cells within a store of this size, one time behind another."""
    rows = [Set("way", 1)]
    for turn in range(chance.randrange(1, 5)):
        first, second = chance.randrange(size), chance.randrange(size)
        left = chance.randrange(1, min(4, size - max(first, second) + 1))
        rows += [Set("here", min(first, second)), Set("there", max(first, second)), Set("left", left),
                 Set("sign", chance.choice([0, 0, 1, 10 ** 9])),
                 chance.choice([Copy(), Turn(), Fill(), Write("sign"), Write("met"), Hop(0)] + [Shift()] * 3)]
    return rows


def pair_of(chance, size):
    one = blind_rows(chance, 12) if chance.randrange(5) == 0 else hauls(chance, size)
    other = blind_rows(chance, 4) if chance.randrange(8) == 0 else nearly(chance, one)
    return (one, other) if chance.randrange(2) else (other, one)


class Alike(unittest.TestCase):
    def same(self, one, other, numbers=(0, 0, 0, 1, 0, 0), size=3):
        for pair in ((one, other), (other, one)):
            told = alike(pair[0], pair[1], Boxes(*numbers), size)
            self.assertEqual(told, ("alike",))
            self.assertIs(type(told), tuple)

    def test_the_same_rows(self):
        for size in (1, 2, 60):
            for rows in ([Copy()], [Fill()] * 24, [Turn(), Shift(), Write("sign"), Hop(3, 1), Add("left", -1)]):
                self.same(rows, list(rows), (0, 1, 5, 1, 4, 0), size)

    def test_alike_though_unlike_in_words(self):
        for one, other in (
                ([Set("left", 2)], [Add("left", 2)]), ([Hop(0)], [Hop(24)]), ([Hop(1, 0)], [Take("here", "here")]),
                ([Hop(0)], [Hop(0)] * 24), ([Copy()], [Shift()]), ([Turn()], [Fill()]),
                ([Set("left", 2), Hop(1), Fill()], [Set("left", 2)]), ([Set("way", 0)], [Add("left", -1)]),
                ([Set("way", 0), Set("sign", 3)], [Hop(1, 0), Set("sign", 4)]), ([Write("left")], [Write("sign")])):
            self.same(one, other)
        self.same([Copy()], [Shift()], (2, 0, 1, 1, 0, 0))
        self.same([Copy()], [Shift()], (1, 0, 2, 1, 0, 0))
        self.same([Turn()], [Add("left", -1)], (1, 0, 1, 1, 0, 0))

    def test_a_cell_copied_to_itself(self):
        self.same([Copy(), Write("sign")], [Shift(), Write("left")], (1, 1, 1, 1, 0, 0))

    def test_the_same_content_put_once_more(self):
        self.same([Write("sign"), Write("sign")], [Write("sign"), Hop(0)], (0, 2, 0, 1, 7, 0))

    def test_one_that_ends_or_stops_stays_as_it_is(self):
        self.same([Hop(0)], [Hop(0), Hop(0), Take("sign", "sign"), Set("way", 1)])
        self.same([Set("met", 2)], [Hop(0), Set("left", 0)])
        self.same([Set("met", 2)], [Hop(3)])
        self.same([Write("sign")], [Take("here", "here"), Set("way", 0)], (0, 3, 0, 1, 0, 0))
        self.same([Copy()], [Turn()], (3, 0, 4, 1, 0, 0))
        self.same([Fill()], [Fill(), Write("there")], (0, 0, 9, 1, 5, 0))

    def test_sizes(self):
        self.same([Turn()], [Turn(), Hop(0)], (0, 0, 60, 1, 0, 0), 60)
        self.same([Fill()], [Write("sign")], (0, 1, 1, 1, 0, 0), 1)

    def test_a_cell_that_only_a_greater_store_has(self):
        self.same([Write("sign")], [Hop(0)], (0, 59, 0, 1, 5, 0), 59)
        self.assertEqual(alike([Write("sign")], [Hop(0)], Boxes(0, 59, 0, 1, 5), 60),
                         ("parted", 1, [0] * 60, ("cell", 59)))


class Parted(unittest.TestCase):
    def parts(self, one, other, numbers, bell, cells, thing):
        for pair in ((one, other), (other, one)):
            told = alike(pair[0], pair[1], Boxes(*numbers), len(cells))
            self.assertEqual(told, ("parted", bell, cells, thing))
            self.assertEqual([type(part) for part in told], [str, int, list, tuple])
            self.assertIs(type(told), tuple)

    def test_in_each_box(self):
        for name in NAMES:
            number = -1 if name == "way" else 1
            self.parts([Hop(0), Set(name, number)], [Hop(0)], (0, 0, 0, 1, 0, 0), 2, [0, 0, 0], ("box", name))

    def test_the_first_box_that_differs(self):
        self.parts([Fill()], [Hop(0)], (0, 1, 1, 1, 0, 0), 1, [0, 0], ("box", "there"))
        self.parts([Set("met", 1)], [Set("sign", 1)], (0, 1, 1, 1, 0, 0), 1, [0, 0], ("box", "sign"))
        self.parts([Set("way", -1)], [Set("left", 2)], (0, 1, 1, 1, 0, 0), 1, [0, 0], ("box", "left"))

    def test_in_boxes_and_a_cell_at_one_bell(self):
        self.parts([Copy()], [Hop(0)], (0, 1, 1, 1, 0, 0), 1, [0, 0], ("box", "here"))
        self.parts([Fill()], [Copy()], (0, 1, 1, 1, 0, 0), 1, [0, 0], ("box", "here"))
        self.parts([Write("sign"), Hop(0)], [Set("met", 1)], (0, 1, 0, 1, 0, 0), 1, [0, 0], ("box", "met"))

    def test_a_number_against_a_content(self):
        for there in range(3):
            one = [1 if cell == there else 0 for cell in range(3)]
            self.parts([Write("sign")], [Hop(0)], (0, there, 0, 1, 0, 0), 1, one, ("cell", there))
            for sign in (1, 2, 10 ** 9):
                self.parts([Write("sign")], [Hop(0)], (0, there, 0, 1, sign, 0), 1, [0, 0, 0], ("cell", there))

    def test_a_number_against_another_one(self):
        for sign, left in itertools.permutations((0, 1, 10 ** 9), 2):
            self.parts([Write("sign")], [Write("left")], (0, 1, left, 1, sign, 0), 1, [0, 0, 0], ("cell", 1))

    def test_a_number_against_the_content_of_another_cell(self):
        for sign, cells in ((0, [0, 1]), (1, [0, 0]), (10 ** 9, [0, 0])):
            self.parts([Turn(), Write("sign")], [Turn(), Hop(0)], (0, 0, 2, 1, sign, 0), 2, cells, ("cell", 0))
            put = [Set("there", 2), Write("sign"), Set("left", 1)]
            self.parts(put + [Shift()], put + [Add("left", -1)], (0, 0, 0, 1, sign, 0), 4,
                       [1, 0, 0] if sign == 0 else [0, 0, 0], ("cell", 2))
            put = [Write("sign"), Set("there", 2), Set("left", 1)]
            self.parts(put + [Shift()], put + [Turn()], (0, 0, 0, 1, sign, 0), 4,
                       [0, 0, 1] if sign == 0 else [0, 0, 0], ("cell", 2))

    def test_two_cells(self):
        for here, there in itertools.combinations(range(4), 2):
            cells = [1 if cell == there else 0 for cell in range(4)]
            self.parts([Shift()], [Add("left", -1)], (here, there, 1, 1, 0, 0), 1, cells, ("cell", there))

    def test_two_cells_hauled_elsewhere(self):
        turned = [Set("left", 4), Turn(), Set("left", 1)]
        for here, there in itertools.combinations(range(4), 2):
            one = turned + [Set("here", here), Set("there", there), Shift()]
            other = turned + [Set("here", here), Set("there", there), Turn()]
            cells = [1 if cell == 3 - here else 0 for cell in range(4)]
            self.parts(one, other, (0, 0, 0, 1, 0, 0), 7, cells, ("cell", there))

    def test_one_that_ends_or_stops_ahead_of_the_other(self):
        rows = [Hop(0)] * 5 + [Set("sign", 3)]
        for short in ([Hop(0)], [Hop(24)], [Set("way", 0)], [Hop(0), Set("met", 2), Set("sign", 3)]):
            self.parts(rows, short, (0, 0, 0, 1, 0, 0), 6, [0], ("box", "sign"))
            self.parts(rows[:5] + [Write("sign")], short, (0, 0, 0, 1, 0, 0), 6, [1], ("cell", 0))

    def test_parted_for_a_while(self):
        self.parts([Set("left", 1), Set("left", 0)], [Hop(0), Hop(0)], (0, 0, 0, 1, 0, 0), 1, [0], ("box", "left"))
        self.parts([Set("left", 1), Set("left", 2)], [Set("left", 2)], (0, 0, 0, 1, 0, 0), 1, [0], ("box", "left"))

    def test_sizes_1_2_and_60(self):
        for size in (1, 2, 60):
            self.parts([Write("sign")], [Hop(0)], (0, size - 1, 0, 1, 0, 0), 1, [0] * (size - 1) + [1],
                       ("cell", size - 1))
            self.parts([Write("sign")], [Hop(0)], (0, 0, 0, 1, 0, 0), 1, [1] + [0] * (size - 1), ("cell", 0))
        self.parts([Shift()], [Add("left", -1)], (0, 59, 1, 1, 0, 0), 1, [0] * 59 + [1], ("cell", 59))

    def test_what_was_handed_in_stays(self):
        one, other, boxes = [Set("left", 1), Fill()], [Set("left", 1), Copy()], Boxes()
        kept = list(one), list(other)
        told = alike(one, other, boxes, 3)
        self.assertEqual((one, other, boxes.told()), kept + ((0, 0, 0, 1, 0, 0),))
        one.clear()
        boxes.give("sign", 5)
        self.assertEqual(told, ("parted", 2, [0, 0, 0], ("box", "here")))

    def test_told_lists_changed_behind_the_call(self):
        for one, other in (([Write("sign")], [Hop(0)]), ([Set("left", 1)], [Hop(0)])):
            told = alike(one, other, Boxes(), 3)
            kept = told[:2] + (list(told[2]),) + told[3:]
            told[2].clear()
            self.assertEqual(alike(one, other, Boxes(), 3), kept)


def kind_of(told):
    if len(told) == 1:
        return "alike"
    return "box" if told[3][0] == "box" else "one" if any(told[2]) else "zeros"


class AgainstMachines(unittest.TestCase):
    def test_by_all_stores_of_some_contents(self):
        kinds = {"alike": 0, "box": 0, "zeros": 0, "one": 0}
        for seed in range(600):
            chance = random.Random(seed)
            size = chance.choice([1, 2, 2, 3])
            one, other = pair_of(chance, size)
            boxes = boxes_by(chance)
            told = alike(one, other, boxes, size)
            self.assertEqual(told, by_all_stores(one, other, boxes, size, (0, 1, 2, 10 ** 9)[:5 - size]), seed)
            kinds[kind_of(told)] += 1
        self.assertGreater(min(kinds.values()), 30, kinds)

    def lesser(self, chance, cells):
        """Some stores that are less than this one, which has a single 1."""
        at = cells.index(1)
        stores = [[0] * len(cells)]
        for turn in range(4):
            tail = [chance.choice([0, 0, 1, 2, 10 ** 9]) for cell in cells[at + 1:]]
            stores.append([0] * (at + 1) + tail)
        return stores

    def test_partings_asked_back(self):
        kinds = {"alike": 0, "box": 0, "zeros": 0, "one": 0}
        for seed in range(500):
            chance = random.Random(seed)
            size = chance.choice([1, 2, 5, 12, 60])
            one, other = pair_of(chance, size)
            boxes = boxes_by(chance)
            told = alike(one, other, boxes, size)
            others = [[chance.choice([0, 1, 2, 10 ** 9]) for cell in range(size)] for turn in range(3)]
            kinds[kind_of(told)] += 1
            if told == ("alike",):
                for cells in others + [list(range(size))]:
                    self.assertTrue(all(left == right for left, right in both_behind(one, other, boxes, cells)))
                continue
            word, bell, cells, thing = told
            left, right = both_behind(one, other, boxes, cells)[bell]
            self.assertNotEqual(left, right)
            self.assertEqual(thing_of(left, right), thing)
            for store in others + [cells]:
                pairs = both_behind(one, other, boxes, store)
                self.assertTrue(all(left == right for left, right in pairs[:bell]), seed)
            if any(cells):
                for store in self.lesser(chance, cells):
                    left, right = both_behind(one, other, boxes, store)[bell]
                    self.assertEqual(left, right, seed)
        self.assertGreater(min(kinds.values()), 30, kinds)


class Refused(unittest.TestCase):
    LOOKING = [Seek(), Match(), Read("sign")]

    def test_not_blind(self):
        for deed in self.LOOKING:
            for at in range(4):
                rows = [Copy()] * 4
                rows[at] = deed
                self.assertEqual(refused(self, NotBlind, alike, rows, [Copy()], Boxes(), 3).at, at)
                self.assertEqual(refused(self, NotBlind, alike, [Copy()], rows, Boxes(), 3).at, at)
                self.assertEqual(refused(self, NotBlind, alike, rows, rows, Boxes(), 3).at, at)

    def test_those_of_the_first_list_go_first(self):
        for one, other in itertools.product(self.LOOKING, repeat=2):
            rows, others = [Copy(), Fill(), one, other], [other, Copy()]
            self.assertEqual(refused(self, NotBlind, alike, rows, others, Boxes(), 3).at, 2)
            self.assertEqual(refused(self, NotBlind, alike, others, rows, Boxes(), 3).at, 0)

    def test_also_where_they_part_ahead_of_it(self):
        self.assertEqual(refused(self, NotBlind, alike, [Set("left", 1)], [Set("left", 2), Seek()], Boxes(), 3).at, 1)

    def test_made_good_it_is_taken(self):
        one, other = [Copy(), Seek()], [Copy(), Match()]
        kept = list(one), list(other)
        refused(self, NotBlind, alike, one, other, Boxes(), 3)
        self.assertEqual((one, other), kept)
        one[1] = Hop(0)
        self.assertEqual(refused(self, NotBlind, alike, one, other, Boxes(), 3).at, 1)
        other[1] = Hop(1)
        self.assertEqual(alike(one, other, Boxes(), 3), ("alike",))


if __name__ == "__main__":
    unittest.main()
