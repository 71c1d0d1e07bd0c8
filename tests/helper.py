"""What several tests need: the boxes with what they hold, things of all kinds, and a second writing of the steps."""

from haulbell.book import Book
from haulbell.boxes import Boxes
from haulbell.deeds import Add, Deed, Read, Set, Take, Write
from haulbell.errors import HaulError, NoFit, NoStore, Stop
from haulbell.hops import Hop
from haulbell.items import Do, Times, When
from haulbell.longs import Copy, Fill, Match, Seek, Shift, Turn
from haulbell.store import Store

BIG = 10 ** 60 - 1
NAMES = ["here", "there", "left", "way", "sign", "met"]
FITTING = {
    "here": [-10 ** 9, -1, 0, 1, 10 ** 9],
    "there": [-10 ** 9, -1, 0, 1, 10 ** 9],
    "left": [0, 1, 10 ** 9 - 1, 10 ** 9],
    "way": [-1, 1],
    "sign": [0, 1, 10 ** 9 - 1, 10 ** 9],
    "met": [0, 1],
}
BEYOND = {
    "here": [-10 ** 9 - 1, 10 ** 9 + 1],
    "there": [-10 ** 9 - 1, 10 ** 9 + 1],
    "left": [-1, 10 ** 9 + 1],
    "way": [-2, 0, 2, 10 ** 9],
    "sign": [-1, 10 ** 9 + 1],
    "met": [-1, 2, 10 ** 9],
}
DEEDS = {"copy": Copy, "fill": Fill, "seek": Seek, "match": Match, "shift": Shift, "turn": Turn}
LEAVES = ["open", "look", "shut"]


def no_wholes():
    """Things that are no whole numbers: truths, texts, and all kinds of others."""
    return [
        True, False, None, "", "0", "1", "-1", "here", "open", [], [0], [1, 2], (), (1,), (0, 1),
        {}, {0: 1}, {"here": 1}, {1, 2}, b"here", len, int, HaulError, HaulError("words"), NoStore(3),
        ["here"], ("open",), {"open": "open"},
    ]


def no_texts():
    """Things that are no texts."""
    return [thing for thing in no_wholes() if not isinstance(thing, str)] + [0, 1, -1, BIG, -BIG]


def refused(test, error_class, call, *things):
    """Asks that the call is refused with just this class, and hands back the refusal."""
    with test.assertRaises(HaulError) as caught:
        call(*things)
    test.assertIs(type(caught.exception), error_class)
    return caught.exception


def asked(word, b):
    """The cells that a step looks at and those that it puts, as the document tells them; left is above 0."""
    here, there, last = b["here"], b["there"], b["left"] - 1
    back = 0 if there <= here else last
    if word == "turn" and last == 0:
        return [], []
    return {
        "copy": ([here], [there]),
        "fill": ([], [there]),
        "seek": ([here], []),
        "match": ([here, there], []),
        "shift": ([here + back], [there + back]),
        "turn": ([here, here + last], [here, here + last]),
    }[word]


def stop_of(looks, puts, cells, leaves):
    for deed, wanted, lets in (("look", looks, ("open", "look")), ("put", puts, ("open",))):
        for cell in wanted:
            if cell not in range(len(cells)) or leaves[cell] not in lets:
                return (deed, cell)
    return None


def after(word, b, cells, looks, puts):
    """The boxes and contents behind a step that can be, and what it tells; left is above 0."""
    b, cells, old = dict(b), list(cells), [cells[cell] for cell in looks]
    found = word == "seek" and old[0] == b["sign"]
    unlike = word == "match" and old[0] != old[1]
    if found or unlike:
        b["met"] = 1 if found else 0
        return b, cells, 1
    if word in ("seek", "match"):
        b["met"] = 0 if word == "seek" else 1
    for cell, content in zip(puts, [b["sign"]] if word == "fill" else old[::-1]):
        cells[cell] = content
    walk = {"copy": ("here", "there"), "fill": ("there",), "seek": ("here",), "match": ("here", "there")}
    forth = {"shift": ("here", "there") if b["there"] <= b["here"] else (), "turn": ("here",) if puts else ()}
    for box in walk.get(word, ()):
        b[box] += b["way"]
    for box in forth.get(word, ()):
        b[box] += 1
    b["left"] -= 2 if word == "turn" and puts else 1
    return b, cells, int(b["left"] == 0)


def long_step(word, boxes, cells, leaves):
    """(boxes, contents, what the step tells: a number or the tuple of the Stop)."""
    b = dict(zip(NAMES, boxes))
    if b["left"] == 0:
        b["met"] = {"seek": 0, "match": 1}.get(word, b["met"])
        return tuple(b.values()), cells, 1
    looks, puts = asked(word, b)
    stop = stop_of(looks, puts, cells, leaves)
    if stop is not None:
        return boxes, cells, stop
    b, cells, told = after(word, b, cells, looks, puts)
    return tuple(b.values()), cells, told


def store_of(cells, leaves):
    store = Store(cells)
    for cell, word in enumerate(leaves):
        store.leave(cell, cell + 1, word)
    return store


def step_of(deed, boxes, store):
    try:
        return deed.step(boxes, store)
    except HaulError as refusal:
        return (refusal.deed, refusal.cell) if type(refusal) is Stop else refusal


def can_hold(box, number):
    """Whether a box can hold a whole number, written apart from the program."""
    return number in {
        "here": range(-10 ** 9, 10 ** 9 + 1), "there": range(-10 ** 9, 10 ** 9 + 1), "left": range(10 ** 9 + 1),
        "way": (1, -1), "sign": range(10 ** 9 + 1), "met": (0, 1),
    }[box]


def short_step(words, boxes, cells, leaves):
    """As long_step, for the short deeds, by their words; a NoFit is told as the tuple ("fit", box)."""
    b, word, box = dict(zip(NAMES, boxes)), words[0], words[1]
    if word == "write":
        if b[box] not in range(10 ** 9 + 1):
            return boxes, cells, ("fit", box)
        stop = stop_of([], [b["there"]], cells, leaves)
        if stop is not None:
            return boxes, cells, stop
        cells = list(cells)
        cells[b["there"]] = b[box]
        return boxes, cells, 1
    if word == "read":
        stop = stop_of([b["here"]], [], cells, leaves)
        if stop is not None:
            return boxes, cells, stop
        number = cells[b["here"]]
    else:
        number = {"set": lambda: int(words[2]), "add": lambda: b[box] + int(words[2]),
                  "take": lambda: b[words[2]]}[word]()
    if not can_hold(box, number):
        return boxes, cells, ("fit", box)
    b[box] = number
    return tuple(b.values()), cells, 1


def any_step(words, boxes, cells, leaves):
    """A step of any deed: (boxes, contents, what the step tells: a number, or what can't be and the thing)."""
    if words[0] in DEEDS:
        return long_step(words[0], boxes, cells, leaves)
    if words[0] == "hop":
        goes = len(words) == 2 or int(words[3]) == boxes[5]
        return boxes, cells, 1 + int(words[1]) if goes else 1
    return short_step(words, boxes, cells, leaves)


def run_model(rows, state, leaves, most):
    """What run tells, the state behind it, and what why tells there; rows are lists of words."""
    at, boxes, cells = state
    steps = 0
    while True:
        if at == len(rows):
            return ("end", steps), (at, boxes, cells), None
        boxes_then, cells_then, told = any_step(rows[at], boxes, cells, leaves)
        why = None if isinstance(told, int) else (at,) + told
        if steps == most:
            return ("bell", steps), (at, boxes, cells), why
        if why is not None:
            return ("stop", steps), (at, boxes, cells), why
        at, boxes, cells, steps = min(at + told, len(rows)), boxes_then, cells_then, steps + 1


def put_by(words, boxes):
    """The cells that a step puts, in order."""
    b = dict(zip(NAMES, boxes))
    if words[0] == "write":
        return [b["there"]]
    return asked(words[0], b)[1] if words[0] in DEEDS and b["left"] > 0 else []


def log_model(rows, state, leaves, most):
    """The log of a run, and the states behind 0, 1, 2 .. steps of it; rows are lists of words."""
    log, states = [], [state]
    while len(log) < most:
        (word, steps), then, why = run_model(rows, states[-1], leaves, 1)
        if steps == 0:
            break
        at, boxes, cells = states[-1]
        log.append((at, boxes, [(cell, cells[cell], then[2][cell]) for cell in put_by(rows[at], boxes)]))
        states.append(then)
    return log, states


def wild_deed(chance):
    """Some short deed, often one that can't be."""
    box, number = chance.choice(NAMES), chance.choice([-1, 0, 1, 2, 3, 5, 8, 10 ** 9])
    return chance.choice([
        lambda: Set(box, number), lambda: Add(box, number), lambda: Take(box, chance.choice(NAMES)),
        lambda: Read(box), lambda: Write(box), lambda: Hop(chance.choice([3, 24]), chance.choice([None, 0, 1])),
    ])()


def deed_of(chance):
    """Some deed, most often one that can be."""
    if chance.randrange(12) == 0:
        return wild_deed(chance)
    place = chance.choice(["here", "there"])
    return chance.choice([
        lambda: Set(place, chance.randrange(8)), lambda: Set("left", chance.randrange(6)),
        lambda: Set("sign", chance.randrange(4)), lambda: Set("way", chance.choice([1, -1])),
        lambda: Add(place, chance.choice([-1, 1, 2])), lambda: Take("here", "there"), lambda: Take("there", "here"),
        lambda: Read(chance.choice(["sign", "left"])), lambda: Write(chance.choice(["sign", "met", "left"])),
        lambda: Hop(chance.randrange(3), chance.choice([None, 0, 1])),
        Copy, Copy, Fill, Seek, Seek, Match, Match, Shift, Shift, Turn, Turn,
    ])()


def boxes_by(chance):
    return Boxes(chance.randrange(9), chance.randrange(9), chance.randrange(7), chance.choice([1, 1, -1]),
                 chance.randrange(4), chance.randrange(2))


def store_by(chance):
    store = Store([chance.randrange(4) for cell in range(chance.choice([1, 9, 12, 12, 20, 60]))])
    for turn in range(chance.choice([0, 0, 1, 2])):
        low = chance.randrange(store.size())
        store.leave(low, min(low + chance.randrange(3), store.size()), chance.choice(LEAVES))
    return store


def machine_things(chance):
    """Rows, a store and boxes for a machine, the same ones each time for the same seed."""
    many = chance.choice([1, 2, 3, 6, 12, 24, 24])
    return [deed_of(chance) for row in range(many)], store_by(chance), boxes_by(chance)


def laid(blocks, block):
    """The list of (path, deed) of a block, by what its items tell; of a Hop that is made here, its words."""
    pairs = []
    for place, item in enumerate(block):
        told = ("deed",) if isinstance(item, Deed) else item.told()
        if told[0] == "deed":
            pairs.append(((place,), item))
        elif told[0] == "do":
            pairs += [((place,) + path, deed) for path, deed in laid(blocks, blocks[told[1]])]
        elif told[0] == "times":
            pairs += [((place, turn) + path, deed) for turn in range(told[1]) for path, deed in laid(blocks, told[2])]
        else:
            one, other = [laid(blocks, part) for part in told[2:]]
            pairs.append(((place,), f"hop {len(one) + bool(told[3])} if {1 - told[1]}"))
            pairs += [((place, 0) + path, deed) for path, deed in one]
            if told[3]:
                pairs.append(((place, 2), f"hop {len(other)}"))
                pairs += [((place, 1) + path, deed) for path, deed in other]
    return pairs


def block_by(chance, depth, names, most, deeds=deed_of):
    """Some block: of items without a Hop where deeds makes none."""
    block = []
    for place in range(chance.randrange(most)):
        kind = chance.choice(["deed", "deed", "do", "times", "when"])
        if kind == "do" and names:
            block.append(Do(chance.choice(names)))
        elif kind == "times" and depth > 1:
            block.append(Times(chance.choice([0, 1, 2, 3]), block_by(chance, depth - 1, names, most, deeds)))
        elif kind == "when" and depth > 1:
            other = chance.choice([None, block_by(chance, depth - 1, names, most, deeds)])
            block.append(When(chance.randrange(2), block_by(chance, depth - 1, names, most, deeds), other))
        else:
            block.append(deeds(chance))
    return block


def book_by(chance, most, deeds=deed_of):
    """A book of some names, and its blocks; each names those ahead of it."""
    book, blocks = Book(), {}
    for word in chance.sample(["a", "b", "haul", "bell", "zz", "sixth"], chance.randrange(7)):
        blocks[word] = block_by(chance, chance.randrange(1, 5), list(blocks), most, deeds)
        book.name(word, blocks[word])
    return book, blocks


def walker_things(chance):
    """A book, its blocks, a block of one to twenty-four deeds laid flat, a store and boxes."""
    while True:
        book, blocks = book_by(chance, 3)
        block = block_by(chance, chance.randrange(1, 5), list(blocks), 5)
        if 1 <= len(laid(blocks, block)) <= 24:
            return book, blocks, block, store_by(chance), boxes_by(chance)


def is_looking(deed):
    """Whether a content says something about what rows with this deed do."""
    return deed.words()[0] in ("seek", "match", "read")


def blind_deed(chance):
    """Some deed that is no Seek, no Match and no Read."""
    while True:
        deed = deed_of(chance)
        if not is_looking(deed):
            return deed


def blind_rows(chance, most=24):
    return [blind_deed(chance) for row in range(chance.randrange(1, most + 1))]


def left_behind(rows, boxes, cells):
    """The pairs (boxes, cells) behind 0, 1, 2 .. steps, up to the end or the stop, all cells being open."""
    words = [deed.words() for deed in rows]
    log, states = log_model(words, (0, boxes.told(), cells), ["open"] * len(cells), 10 ** 6)
    return [(numbers, contents) for at, numbers, contents in states]
