"""The six boxes of a machine, and what each of them can hold."""

from haulbell.errors import NoBox, NoFit
from haulbell.wholes import BOUND, is_content, is_whole

NAMES = ("here", "there", "left", "way", "sign", "met")


def is_box(thing):
    return isinstance(thing, str) and thing in NAMES


def is_number(thing):
    return is_whole(thing) and -BOUND <= thing <= BOUND


def fits(box, thing):
    if box == "here" or box == "there":
        return is_number(thing)
    if box == "way":
        return is_whole(thing) and (thing == 1 or thing == -1)
    if box == "met":
        return is_whole(thing) and (thing == 0 or thing == 1)
    return is_content(thing)


class Boxes:
    def __init__(self, here=0, there=0, left=0, way=1, sign=0, met=0):
        handed = (here, there, left, way, sign, met)
        for box, number in zip(NAMES, handed):
            if not fits(box, number):
                raise NoFit(box, number)
        self.numbers = dict(zip(NAMES, handed))

    def holds(self, box):
        if not is_box(box):
            raise NoBox(box)
        return self.numbers[box]

    def give(self, box, number):
        if not is_box(box):
            raise NoBox(box)
        if not fits(box, number):
            raise NoFit(box, number)
        self.numbers[box] = number

    def told(self):
        return tuple([self.numbers[box] for box in NAMES])

    def copied(self):
        other = Boxes()
        other.numbers = dict(self.numbers)
        return other


def boxes_of(numbers):
    return Boxes(numbers[0], numbers[1], numbers[2], numbers[3], numbers[4], numbers[5])
