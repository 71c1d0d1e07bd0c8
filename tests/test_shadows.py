import random
import unittest

from haulbell.boxes import Boxes
from haulbell.deeds import Add, Read, Set, Take, Write
from haulbell.errors import NoRows, NotBlind
from haulbell.hops import Hop
from haulbell.longs import Copy, Fill, Match, Seek, Shift, Turn
from haulbell.shadows import is_blind, shadows
from helper import NAMES, blind_rows, boxes_by, left_behind, refused

LOOKING = [Seek(), Match(), Read("sign"), Read("here")]
BLIND = [Set("left", 2), Add("here", 1), Take("there", "here"), Write("sign"), Hop(0), Hop(1, 0), Copy(), Fill(),
         Shift(), Turn()]
# Above all numbers that the rows of these tests put, but for the greatest content.
UNLIKE = [700000000 + cell for cell in range(60)]


def cell(number):
    return ("cell", number)


def number(content):
    return ("number", content)


class Blind(unittest.TestCase):
    def test_blind_rows(self):
        for deed in BLIND:
            for many in (1, 2, 24):
                self.assertIs(is_blind([deed] * many), True)
        self.assertIs(is_blind(BLIND), True)

    def test_rows_that_look_for_their_way(self):
        for deed in LOOKING + [Read(box) for box in NAMES]:
            for many in (1, 2, 5, 24):
                for at in range(many):
                    rows = [Copy()] * many
                    rows[at] = deed
                    self.assertIs(is_blind(rows), False)
                    self.assertEqual(refused(self, NotBlind, shadows, rows, Boxes(), 3).at, at)

    def test_of_several_the_first_one(self):
        for one in LOOKING:
            for other in LOOKING:
                rows = [Copy(), Fill(), one, Hop(2), other, Turn()]
                self.assertIs(is_blind(rows), False)
                self.assertEqual(refused(self, NotBlind, shadows, rows, Boxes(), 3).at, 2)

    def test_also_where_they_are_never_come_to(self):
        self.assertEqual(refused(self, NotBlind, shadows, [Hop(1), Seek()], Boxes(), 3).at, 1)
        self.assertEqual(refused(self, NotBlind, shadows, [Set("way", 0), Read("left")], Boxes(), 3).at, 1)

    def test_asking_changes_nothing_and_made_good_it_is_taken(self):
        rows = [Copy(), Seek()]
        kept = list(rows)
        for turn in range(2):
            self.assertIs(is_blind(rows), False)
            refused(self, NotBlind, shadows, rows, Boxes(), 3)
            self.assertEqual(rows, kept)
        rows[1] = Fill()
        self.assertIs(is_blind(rows), True)
        self.assertEqual(len(shadows(rows, Boxes(), 3)), 3)

    def test_rows_that_no_machine_takes(self):
        for rows, at in (([], -1), ([Copy()] * 25, -1), ([Copy(), None], 1), (None, -1), ((Copy(),), -1),
                         ([Seek()] * 25, -1), ([Seek(), None], 1)):
            self.assertEqual(refused(self, NoRows, shadows, rows, Boxes(), 3).at, at)


class Shadows(unittest.TestCase):
    def tells(self, rows, numbers, size, wanted):
        """wanted: behind 0, 1, 2 .. steps the boxes, and the origins of those cells that have not their own content."""
        told = shadows(rows, Boxes(*numbers), size)
        for shadow in told:
            self.assertEqual([type(thing) for thing in (shadow, shadow[0], shadow[1])], [tuple, tuple, list])
            self.assertTrue(all(type(origin) is tuple for origin in shadow[1]))
        whole = [(boxes, [origins.get(k, cell(k)) for k in range(size)]) for boxes, origins in wanted]
        self.assertEqual(told, whole)

    def test_short_deeds(self):
        self.tells([Set("left", 3), Add("left", 2), Take("sign", "left"), Write("sign"), Hop(3), Set("left", 9)],
                   (0, 1, 0, 1, 0, 0), 3,
                   [((0, 1, 0, 1, 0, 0), {}), ((0, 1, 3, 1, 0, 0), {}), ((0, 1, 5, 1, 0, 0), {}),
                    ((0, 1, 5, 1, 5, 0), {})] + [((0, 1, 5, 1, 5, 0), {1: number(5)})] * 2)

    def test_copy(self):
        self.tells([Copy()], (0, 1, 2, 1, 0, 0), 4, [
            ((0, 1, 2, 1, 0, 0), {}), ((1, 2, 1, 1, 0, 0), {1: cell(0)}),
            ((2, 3, 0, 1, 0, 0), {1: cell(0), 2: cell(0)})])
        self.tells([Copy()], (3, 3, 1, -1, 0, 0), 4, [((3, 3, 1, -1, 0, 0), {}), ((2, 2, 0, -1, 0, 0), {})])

    def test_fill_of_the_least_and_the_greatest_content(self):
        for sign in (0, 1, 10 ** 9):
            self.tells([Fill()], (0, 1, 2, -1, sign, 0), 2, [
                ((0, 1, 2, -1, sign, 0), {}), ((0, 0, 1, -1, sign, 0), {1: number(sign)}),
                ((0, -1, 0, -1, sign, 0), {0: number(sign), 1: number(sign)})])

    def test_shift(self):
        self.tells([Shift()], (0, 1, 2, 1, 0, 0), 3, [
            ((0, 1, 2, 1, 0, 0), {}), ((0, 1, 1, 1, 0, 0), {2: cell(1)}),
            ((0, 1, 0, 1, 0, 0), {1: cell(0), 2: cell(1)})])
        self.tells([Shift()], (1, 0, 2, 1, 0, 0), 3, [
            ((1, 0, 2, 1, 0, 0), {}), ((2, 1, 1, 1, 0, 0), {0: cell(1)}),
            ((3, 2, 0, 1, 0, 0), {0: cell(1), 1: cell(2)})])

    def test_turn(self):
        self.tells([Turn()], (0, 0, 3, 1, 0, 0), 3, [
            ((0, 0, 3, 1, 0, 0), {}), ((1, 0, 1, 1, 0, 0), {0: cell(2), 2: cell(0)}),
            ((1, 0, 0, 1, 0, 0), {0: cell(2), 2: cell(0)})])

    def test_a_number_is_hauled_on(self):
        self.tells([Write("sign"), Set("left", 1), Copy()], (0, 0, 0, 1, 8, 0), 1, [
            ((0, 0, 0, 1, 8, 0), {}), ((0, 0, 0, 1, 8, 0), {0: number(8)}), ((0, 0, 1, 1, 8, 0), {0: number(8)}),
            ((1, 1, 0, 1, 8, 0), {0: number(8)})])
        self.tells([Write("sign"), Turn()], (0, 0, 2, 1, 8, 0), 2, [
            ((0, 0, 2, 1, 8, 0), {}), ((0, 0, 2, 1, 8, 0), {0: number(8)}),
            ((1, 0, 0, 1, 8, 0), {0: cell(1), 1: number(8)})])

    def test_up_to_the_end(self):
        for many in (1, 5, 24):
            self.assertEqual(len(shadows([Hop(0)] * many, Boxes(), 2)), many + 1)
        self.assertEqual(len(shadows([Hop(24)] * 24, Boxes(), 2)), 2)
        self.assertEqual(len(shadows([Hop(2, 1), Hop(2, 0), Copy(), Copy()], Boxes(), 2)), 3)

    def test_up_to_a_stop_of_each_cause(self):
        for deed, numbers in (
                (Set("way", 0), (0, 0, 0, 1, 0, 0)), (Add("left", -1), (0, 0, 0, 1, 0, 0)),
                (Take("met", "left"), (0, 0, 5, 1, 0, 0)), (Write("here"), (-1, 0, 0, 1, 0, 0)),
                (Write("sign"), (0, 3, 0, 1, 0, 0)), (Write("sign"), (0, -1, 0, 1, 0, 0)), (Copy(), (3, 0, 1, 1, 0, 0)),
                (Copy(), (0, 3, 1, 1, 0, 0)), (Copy(), (-1, 0, 1, 1, 0, 0)), (Fill(), (0, 3, 1, 1, 0, 0)),
                (Fill(), (0, -1, 1, 1, 0, 0)), (Shift(), (3, 0, 1, 1, 0, 0)), (Shift(), (0, 1, 3, 1, 0, 0)),
                (Shift(), (0, -1, 1, 1, 0, 0)), (Turn(), (0, 0, 4, 1, 0, 0)), (Turn(), (-1, 0, 2, 1, 0, 0)),
                (Turn(), (0, 0, 10 ** 9, 1, 0, 0)), (Fill(), (0, 10 ** 9, 10 ** 9, 1, 0, 0))):
            self.tells([Hop(0), deed, Set("sign", 5)], numbers, 3, [(numbers, {}), (numbers, {})])

    def test_a_stop_amid_a_long_deed(self):
        told = shadows([Fill()], Boxes(0, 0, 10 ** 9, 1, 4), 60)
        self.assertEqual(len(told), 61)
        self.assertEqual(told[-1], ((0, 60, 10 ** 9 - 60, 1, 4, 0), [number(4)] * 60))

    def test_sizes_1_and_60(self):
        self.assertEqual(shadows([Hop(0)], Boxes(), 1), [((0, 0, 0, 1, 0, 0), [cell(0)])] * 2)
        told = shadows([Turn()], Boxes(0, 0, 60), 60)
        self.assertEqual(len(told), 31)
        self.assertEqual(told[-1], ((30, 0, 0, 1, 0, 0), [cell(59 - k) for k in range(60)]))

    def test_the_longest(self):
        rows = [Set("here", 0), Set("there", 0), Set("left", 60), Copy()] * 6
        self.assertEqual(len(shadows(rows, Boxes(), 60)), 1 + 6 * 63)

    def test_what_was_handed_in_stays(self):
        rows, boxes = [Set("left", 2), Fill()], Boxes()
        kept = list(rows)
        first = shadows(rows, boxes, 3)
        self.assertEqual((rows, boxes.told()), (kept, (0, 0, 0, 1, 0, 0)))
        rows.append(Turn())
        boxes.give("sign", 5)
        self.assertEqual(first, shadows(kept, Boxes(), 3))

    def test_told_lists_changed_behind_the_call(self):
        rows, boxes = [Set("left", 2), Hop(0), Fill()], Boxes()
        kept = shadows(rows, boxes, 3)
        told = shadows(rows, boxes, 3)
        told[0][1].clear()
        self.assertEqual(told[1:], kept[1:])
        told[1][1][0] = "spoilt"
        self.assertEqual(told[2:], kept[2:])
        told.pop()
        self.assertEqual(shadows(rows, boxes, 3), kept)


class AgainstMachines(unittest.TestCase):
    def test_origins_by_a_store_of_unlike_contents(self):
        for seed in range(400):
            chance = random.Random(seed)
            rows, boxes, size = blind_rows(chance), boxes_by(chance), chance.choice([1, 2, 3, 9, 12, 60])
            states = left_behind(rows, boxes, UNLIKE[:size])
            wanted = [(numbers, [cell(UNLIKE.index(content)) if content in UNLIKE else number(content)
                                 for content in cells]) for numbers, cells in states]
            self.assertEqual(shadows(rows, boxes, size), wanted, seed)

    def test_every_store(self):
        for seed in range(200):
            chance = random.Random(seed)
            rows, boxes, size = blind_rows(chance), boxes_by(chance), chance.choice([1, 2, 3, 9, 12, 60])
            told = shadows(rows, boxes, size)
            for turn in range(4):
                cells = [chance.choice([0, 1, 2, 10 ** 9]) for place in range(size)]
                behind = [(numbers, [cells[thing] if kind == "cell" else thing for kind, thing in origins])
                          for numbers, origins in told]
                self.assertEqual(left_behind(rows, boxes, cells), behind, seed)


if __name__ == "__main__":
    unittest.main()
