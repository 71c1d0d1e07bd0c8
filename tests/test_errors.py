import unittest

from haulbell import errors
from haulbell.errors import HaulError

FIELDS = {
    "NoStore": ["at"],
    "NoLeave": ["low", "behind", "word"],
    "Stop": ["deed", "cell"],
    "NoFit": ["box", "number"],
    "NoBox": ["box"],
    "NoDeed": ["word"],
    "NoRows": ["at"],
    "NoPlace": ["at"],
    "NoBack": ["many"],
    "NoName": ["word"],
    "NoFlat": ["many"],
    "NoPart": ["at"],
    "NoMember": ["k"],
    "NotBlind": ["at"],
    "NoText": ["at"],
    "NoRow": ["row"],
}


def refusals():
    return [(name, getattr(errors, name), fields) for name, fields in FIELDS.items()]


def endless():
    thing = []
    thing.append(thing)
    return thing


def any_things():
    return [
        0, 1, -1, 60, 10 ** 9, 10 ** 60 - 1, 1 - 10 ** 60, "", "look", "a b", None, True, False,
        [], [1, "two", None], (), (1, 2), {}, {"k": [1]}, HaulError("words"), endless(),
        10 ** 5000, b"bytes", {1}, object(), len, int,
    ]


class TheClasses(unittest.TestCase):
    def test_haul_error_stands_right_under_value_error(self):
        self.assertEqual(HaulError.__bases__, (ValueError,))

    def test_there_are_sixteen(self):
        self.assertEqual(len(refusals()), 16)
        self.assertEqual(len({kind for name, kind, fields in refusals()}), 16)

    def test_each_stands_right_under_haul_error(self):
        for name, kind, fields in refusals():
            with self.subTest(name):
                self.assertEqual(kind.__bases__, (HaulError,))
                self.assertEqual(kind.__name__, name)

    def test_none_stands_under_another_one(self):
        for name, kind, fields in refusals():
            made = kind(*[0] * len(fields))
            for other_name, other, other_fields in refusals():
                with self.subTest(name, other=other_name):
                    self.assertEqual(isinstance(made, other), name == other_name)

    def test_haul_error_by_itself_is_none_of_them(self):
        made = HaulError("some words")
        self.assertIsInstance(made, ValueError)
        self.assertEqual(str(made), "some words")
        for name, kind, fields in refusals():
            self.assertNotIsInstance(made, kind)


class Caught(unittest.TestCase):
    def test_by_its_own_class_by_haul_error_and_by_value_error(self):
        for name, kind, fields in refusals():
            for above in (kind, HaulError, ValueError):
                with self.subTest(name, above=above):
                    made = kind(*[7] * len(fields))
                    try:
                        raise made
                    except above as caught:
                        self.assertIs(caught, made)

    def test_not_by_another_one(self):
        for name, kind, fields in refusals():
            others = tuple(other for other_name, other, more in refusals() if other_name != name)
            with self.subTest(name):
                try:
                    raise kind(*[7] * len(fields))
                except others:
                    self.fail("taken by another class")
                except HaulError:
                    pass


class Fields(unittest.TestCase):
    def test_the_fields_are_the_very_things(self):
        for name, kind, fields in refusals():
            for thing in any_things():
                with self.subTest(name):
                    made = kind(*[thing] * len(fields))
                    for field in fields:
                        self.assertIs(getattr(made, field), thing)

    def test_each_field_has_its_own_thing(self):
        for name, kind, fields in refusals():
            things = [[field] for field in fields]
            made = kind(*things)
            with self.subTest(name):
                for field, thing in zip(fields, things):
                    self.assertIs(getattr(made, field), thing)

    def test_a_thing_is_kept_itself_and_not_a_copy(self):
        for name, kind, fields in refusals():
            thing = [1, [2]]
            made = kind(*[thing] * len(fields))
            thing[1].append(3)
            thing.append(4)
            with self.subTest(name):
                self.assertEqual(getattr(made, fields[-1]), [1, [2, 3], 4])

    def test_two_of_one_class_keep_each_its_own(self):
        for name, kind, fields in refusals():
            one = kind(*[("one", field) for field in fields])
            two = kind(*[("two", field) for field in fields])
            with self.subTest(name):
                for field in fields:
                    self.assertEqual(getattr(one, field), ("one", field))
                    self.assertEqual(getattr(two, field), ("two", field))

    def test_words_can_be_shown_whatever_it_is_made_of(self):
        for name, kind, fields in refusals():
            for thing in any_things():
                with self.subTest(name):
                    self.assertIsInstance(str(kind(*[thing] * len(fields))), str)


if __name__ == "__main__":
    unittest.main()
