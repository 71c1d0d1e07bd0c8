import unittest

from haulbell.wholes import is_content, is_whole
from helper import BIG, no_wholes

CONTENTS = [0, 1, 2, 59, 60, 10 ** 9 - 1, 10 ** 9]
OTHER_WHOLES = [-1, -2, -10 ** 9, -10 ** 9 - 1, 10 ** 9 + 1, 10 ** 10, BIG, -BIG, 10 ** 59, -10 ** 59]


class Wholes(unittest.TestCase):
    def test_whole_numbers(self):
        for thing in CONTENTS + OTHER_WHOLES:
            with self.subTest(thing):
                self.assertIs(is_whole(thing), True)

    def test_things_that_are_none(self):
        for thing in no_wholes():
            with self.subTest(repr(thing)):
                self.assertIs(is_whole(thing), False)

    def test_contents(self):
        for thing in CONTENTS:
            with self.subTest(thing):
                self.assertIs(is_content(thing), True)

    def test_whole_numbers_that_are_no_contents(self):
        for thing in OTHER_WHOLES:
            with self.subTest(thing):
                self.assertIs(is_content(thing), False)

    def test_other_things_are_no_contents(self):
        for thing in no_wholes():
            with self.subTest(repr(thing)):
                self.assertIs(is_content(thing), False)

    def test_asked_again_the_answer_is_the_same_and_nothing_is_changed(self):
        thing = [1, {"two": [2]}]
        for ask in (is_whole, is_content):
            self.assertEqual([ask(thing), ask(thing)], [False, False])
            self.assertEqual([ask(5), ask(5)], [True, True])
        self.assertEqual(thing, [1, {"two": [2]}])


if __name__ == "__main__":
    unittest.main()
