import itertools
import unittest

from haulbell.stretches import apart, shared, touched
from haulbell.wholes import is_whole
from helper import BIG

NEAR = range(-3, 4)


def all_stretches():
    return [(low, behind) for low in NEAR for behind in NEAR if low <= behind]


def cells_of(stretch):
    return set(range(stretch[0], stretch[1]))


class Touched(unittest.TestCase):
    def test_the_way_on(self):
        self.assertEqual(touched(3, 4, 1), (3, 7))
        self.assertEqual(touched(-3, 2, 1), (-3, -1))
        self.assertEqual(touched(0, 1, 1), (0, 1))

    def test_the_way_back(self):
        self.assertEqual(touched(3, 4, -1), (0, 4))
        self.assertEqual(touched(-3, 2, -1), (-4, -2))
        self.assertEqual(touched(0, 1, -1), (0, 1))

    def test_no_steps(self):
        self.assertEqual(touched(5, 0, 1), (5, 5))
        self.assertEqual(touched(5, 0, -1), (6, 6))
        self.assertEqual(touched(-5, 0, -1), (-4, -4))

    def test_the_cells_are_those_that_the_steps_come_to(self):
        for first in NEAR:
            for many in range(6):
                for way in (1, -1):
                    steps = {first + way * step for step in range(many)}
                    self.assertEqual(cells_of(touched(first, many, way)), steps)

    def test_long_numbers(self):
        many = 10 ** 59 + 7
        for first in (BIG, -BIG, 10 ** 59, 0):
            self.assertEqual(touched(first, many, 1), (first, first + many))
            self.assertEqual(touched(first, many, -1), (first + 1 - many, first + 1))
        self.assertEqual(touched(-BIG, BIG, -1), (1 - 2 * BIG, 1 - BIG))

    def test_the_answer_is_a_tuple_of_two_whole_numbers(self):
        for way in (1, -1):
            for many in (0, 1, 5, BIG):
                told = touched(2, many, way)
                self.assertIs(type(told), tuple)
                self.assertEqual([is_whole(thing) for thing in told], [True, True])


class Shared(unittest.TestCase):
    def ask(self, one, other, answer):
        self.assertEqual(shared(one, other), answer)
        self.assertEqual(shared(other, one), answer)

    def test_overlaps(self):
        self.ask((0, 5), (3, 8), (3, 5))
        self.ask((-4, 1), (-1, 8), (-1, 1))
        self.ask((0, 5), (4, 5), (4, 5))

    def test_one_within_the_other(self):
        self.ask((0, 9), (2, 4), (2, 4))
        self.ask((0, 9), (0, 4), (0, 4))
        self.ask((0, 9), (5, 9), (5, 9))

    def test_the_same(self):
        self.ask((2, 6), (2, 6), (2, 6))

    def test_side_by_side_and_far_off(self):
        self.ask((0, 3), (3, 6), None)
        self.ask((0, 3), (4, 6), None)
        self.ask((-9, -3), (3, 9), None)

    def test_stretches_of_no_cells(self):
        self.ask((2, 2), (0, 5), None)
        self.ask((0, 0), (0, 5), None)
        self.ask((5, 5), (0, 5), None)
        self.ask((2, 2), (2, 2), None)
        self.ask((2, 2), (3, 3), None)

    def test_long_numbers(self):
        self.ask((-BIG, BIG), (BIG - 1, BIG), (BIG - 1, BIG))
        self.ask((-BIG, 0), (-1, BIG), (-1, 0))
        self.ask((-BIG, 0), (0, BIG), None)

    def test_against_the_cells_themselves(self):
        for one in all_stretches():
            for other in all_stretches():
                both = sorted(cells_of(one) & cells_of(other))
                answer = (both[0], both[-1] + 1) if both else None
                told = shared(one, other)
                self.assertEqual(told, answer)
                self.assertIs(type(told), tuple if both else type(None))


class Apart(unittest.TestCase):
    def test_none_and_one(self):
        self.assertIs(apart([]), True)
        self.assertIs(apart([(0, 5)]), True)
        self.assertIs(apart([(5, 5)]), True)

    def test_side_by_side(self):
        self.assertIs(apart([(0, 3), (3, 6)]), True)
        self.assertIs(apart([(3, 6), (0, 3), (-2, 0)]), True)

    def test_overlaps(self):
        self.assertIs(apart([(0, 4), (3, 6)]), False)
        self.assertIs(apart([(3, 6), (0, 4)]), False)
        self.assertIs(apart([(0, 9), (3, 4)]), False)

    def test_of_no_cells_within_another_one(self):
        self.assertIs(apart([(0, 9), (4, 4)]), True)
        self.assertIs(apart([(4, 4), (0, 9), (4, 4)]), True)

    def test_the_same_at_two_places(self):
        stretch = (1, 2)
        self.assertIs(apart([stretch, stretch]), False)
        self.assertIs(apart([stretch, (5, 6), stretch]), False)
        empty = (1, 1)
        self.assertIs(apart([empty, empty]), True)

    def test_any_two_places_of_thirty_two(self):
        clear = [(3 * k, 3 * k + 3) for k in range(32)]
        self.assertIs(apart(clear), True)
        self.assertIs(apart(clear[::-1]), True)
        for one, other in itertools.combinations(range(32), 2):
            spoilt = list(clear)
            spoilt[one] = (3 * other + 1, 3 * other + 2)
            self.assertIs(apart(spoilt), False)

    def test_long_numbers(self):
        self.assertIs(apart([(-BIG, 0), (0, BIG)]), True)
        self.assertIs(apart([(-BIG, 1), (0, BIG)]), False)

    def test_against_the_cells_themselves_in_any_order(self):
        some = [(-2, 0), (-1, 2), (0, 0), (0, 1), (1, 3), (2, 2)]
        for many in (2, 3):
            for choice in itertools.product(some, repeat=many):
                cells = [cell for stretch in choice for cell in cells_of(stretch)]
                self.assertIs(apart(list(choice)), len(cells) == len(set(cells)))

    def test_the_list_stays_as_it_was(self):
        for stretches in ([(5, 7), (0, 3), (2, 2)], [(5, 7), (0, 6)]):
            before = list(stretches)
            first = apart(stretches)
            self.assertEqual(stretches, before)
            self.assertIs(apart(stretches), first)


if __name__ == "__main__":
    unittest.main()
