"""Blocks and states as texts: written, and read word by word."""

from haulbell.boxes import NAMES
from haulbell.deeds import Add, Read, Set, Take, Write
from haulbell.errors import NoText
from haulbell.hops import MOST_HOPPED, Hop
from haulbell.items import Do, Times, When
from haulbell.longs import Copy, Fill, Match, Seek, Shift, Turn
from haulbell.machine import MOST_ROWS
from haulbell.reader import Reader
from haulbell.wholes import BOUND

MOST_TIMES = 9
MOST_ITEMS = 24
DEEPEST = 4


def long_deed_from(reader):
    if reader.skips("copy"):
        return Copy()
    if reader.skips("fill"):
        return Fill()
    if reader.skips("seek"):
        return Seek()
    if reader.skips("match"):
        return Match()
    if reader.skips("shift"):
        return Shift()
    reader.take_word("turn")
    return Turn()


def hop_from(reader):
    many = reader.take_number(0, MOST_HOPPED)
    if reader.skips("if"):
        return Hop(many, reader.take_number(0, 1))
    return Hop(many)


def deed_from(reader):
    if reader.skips("set"):
        return Set(reader.take_box(), reader.take_number(-BOUND, BOUND))
    if reader.skips("add"):
        return Add(reader.take_box(), reader.take_number(-BOUND, BOUND))
    if reader.skips("take"):
        return Take(reader.take_box(), reader.take_box())
    if reader.skips("read"):
        return Read(reader.take_box())
    if reader.skips("write"):
        return Write(reader.take_box())
    if reader.skips("hop"):
        return hop_from(reader)
    return long_deed_from(reader)


def when_from(reader, depth):
    on = reader.take_number(0, 1)
    block = items_from(reader, depth)
    if reader.skips("else"):
        return When(on, block, items_from(reader, depth))
    return When(on, block)


# depth is the depth of the block in which the item stands.
def item_from(reader, depth):
    if reader.skips("do"):
        return Do(reader.take_name())
    if reader.skips("times"):
        return Times(reader.take_number(0, MOST_TIMES), items_from(reader, depth + 1))
    if reader.skips("when"):
        return when_from(reader, depth + 1)
    return deed_from(reader)


def items_from(reader, depth):
    if depth > DEEPEST:
        raise NoText(reader.at)
    reader.take_word("(")
    if reader.skips(")"):
        return []
    items = [item_from(reader, depth)]
    while len(items) < MOST_ITEMS and reader.skips(";"):
        items.append(item_from(reader, depth))
    reader.take_word(")")
    return items


def block_from(reader):
    return items_from(reader, 1)


def state_from(reader):
    at = reader.take_number(0, MOST_ROWS)
    boxes = tuple([reader.take_fitting(box) for box in NAMES])
    leaves = reader.take_leaves()
    cells = [reader.take_number(0, BOUND) for leave in leaves]
    return ((at, boxes, cells), leaves)


def read_block(text):
    reader = Reader(text)
    block = block_from(reader)
    reader.finish()
    return block


def read_state(text):
    reader = Reader(text)
    told = state_from(reader)
    reader.finish()
    return told


def when_words(when):
    told = ["when", str(when.on)] + block_words(when.block)
    if len(when.other) > 0:
        told.append("else")
        told.extend(block_words(when.other))
    return told


def item_words(item):
    if isinstance(item, Do):
        return ["do", item.called]
    if isinstance(item, Times):
        return ["times", str(item.many)] + block_words(item.block)
    if isinstance(item, When):
        return when_words(item)
    return item.words()


def block_words(block):
    told = ["("]
    for place, item in enumerate(block):
        if place > 0:
            told.append(";")
        told.extend(item_words(item))
    told.append(")")
    return told


def show_block(block):
    return " ".join(block_words(block))


def show_state(state, leaves):
    # A leave's letter is the first one of its word.
    letters = "".join([word[0] for word in leaves])
    told = [str(state[0])] + [str(number) for number in state[1]] + [letters]
    told.extend([str(content) for content in state[2]])
    return " ".join(told)
