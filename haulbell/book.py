"""The book: names for blocks; and blocks laid flat, with the paths of their deeds."""

from haulbell.errors import NoFlat, NoName
from haulbell.hops import Hop
from haulbell.items import Do, Times, When
from haulbell.machine import MOST_ROWS

LETTERS = "abcdefghijklmnopqrstuvwxyz"
LONGEST_NAME = 8


def is_name(thing):
    if not isinstance(thing, str) or not 1 <= len(thing) <= LONGEST_NAME:
        return False
    return all([sign in LETTERS for sign in thing])


# A named block is not looked into: it was when it was named, and names stay.
def check_names(book, block):
    for item in block:
        if isinstance(item, Do) and not book.has(item.called):
            raise NoName(item.called)
        if isinstance(item, (Times, When)):
            check_names(book, item.block)
        if isinstance(item, When):
            check_names(book, item.other)


def count_item(book, item):
    if isinstance(item, Do):
        return book.count_named(item.called)
    if isinstance(item, Times):
        return item.many * count_block(book, item.block)
    if isinstance(item, When):
        return count_when(book, item)
    return 1


def count_when(book, when):
    many = 1 + count_block(book, when.block)
    if len(when.other) == 0:
        return many
    return many + 1 + count_block(book, when.other)


def count_block(book, block):
    return sum([count_item(book, item) for item in block])


class Book:
    def __init__(self):
        self.blocks = {}
        # Counted once, when they are named: blocks that name one another come
        # to more deeds than could be counted one by one.
        self.counts = {}

    def has(self, word):
        return word in self.blocks

    def name(self, word, block):
        if not is_name(word) or self.has(word):
            raise NoName(word)
        check_names(self, block)
        self.counts[word] = count_block(self, block)
        self.blocks[word] = list(block)

    def block_named(self, word):
        return self.blocks[word]

    def count_named(self, word):
        return self.counts[word]


def count_of(book, block):
    check_names(book, block)
    return count_block(book, block)


def under(head, pairs):
    return [(head + path, deed) for path, deed in pairs]


def laid_do(book, place, do):
    # Blocks of no deeds may name one another far too often to walk them all.
    if book.count_named(do.called) == 0:
        return []
    return under((place,), laid(book, book.block_named(do.called)))


def laid_times(book, place, times):
    # What is never done may come to any number of deeds.
    if times.many == 0:
        return []
    once = laid(book, times.block)
    pairs = []
    for turn in range(times.many):
        pairs.extend(under((place, turn), once))
    return pairs


def laid_when(book, place, when):
    block = under((place, 0), laid(book, when.block))
    if len(when.other) == 0:
        return [((place,), Hop(len(block), 1 - when.on))] + block
    other = under((place, 1), laid(book, when.other))
    first = ((place,), Hop(len(block) + 1, 1 - when.on))
    second = ((place, 2), Hop(len(other)))
    return [first] + block + [second] + other


def laid_item(book, place, item):
    if isinstance(item, Do):
        return laid_do(book, place, item)
    if isinstance(item, Times):
        return laid_times(book, place, item)
    if isinstance(item, When):
        return laid_when(book, place, item)
    return [((place,), item)]


# The pairs (path, deed) of a block laid flat, whose names the book has.
def laid(book, block):
    pairs = []
    for place, item in enumerate(block):
        pairs.extend(laid_item(book, place, item))
    return pairs


def laid_flat(book, block):
    many = count_of(book, block)
    if not 1 <= many <= MOST_ROWS:
        raise NoFlat(many)
    return laid(book, block)


def flat(book, block):
    return [deed for path, deed in laid_flat(book, block)]


def paths(book, block):
    return [path for path, deed in laid_flat(book, block)]
