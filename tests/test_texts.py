import random
import re
import unittest

from haulbell.boxes import Boxes
from haulbell.deeds import Add, Deed, Read, Set, Take, Write
from haulbell.errors import NoText
from haulbell.hops import Hop
from haulbell.items import Do, Times, When
from haulbell.longs import Copy, Fill, Match, Seek, Shift, Turn
from haulbell.machine import Machine
from haulbell.store import Store
from haulbell.texts import read_block, read_state, show_block, show_state
from helper import BEYOND, FITTING, LEAVES, NAMES, block_by, machine_things, no_texts, refused, store_of

DEEDS = [
    ("set here -1000000000", Set("here", -10 ** 9)), ("set way 0", Set("way", 0)),
    ("set met 1000000000", Set("met", 10 ** 9)),
    ("add left -1", Add("left", -1)), ("add sign 0", Add("sign", 0)), ("add there 1000000000", Add("there", 10 ** 9)),
    ("take here there", Take("here", "there")), ("take way way", Take("way", "way")), ("read sign", Read("sign")),
    ("write met", Write("met")), ("hop 0", Hop(0)), ("hop 24", Hop(24)), ("hop 3 if 0", Hop(3, 0)),
    ("hop 24 if 1", Hop(24, 1)),
    ("copy", Copy()), ("fill", Fill()), ("seek", Seek()), ("match", Match()), ("shift", Shift()), ("turn", Turn()),
]
ITEMS = DEEDS + [
    ("do a", Do("a")), ("do haulbell", Do("haulbell")), ("do else", Do("else")), ("do do", Do("do")),
    ("times 0 ( )", Times(0, [])), ("times 9 ( copy ; fill )", Times(9, [Copy(), Fill()])),
    ("when 0 ( )", When(0, [])), ("when 1 ( copy )", When(1, [Copy()])),
    ("when 1 ( ) else ( copy ; do a )", When(1, [], [Copy(), Do("a")])),
    ("when 0 ( hop 2 if 1 ) else ( turn )", When(0, [Hop(2, 1)], [Turn()])),
]
DEEP = "( times 2 ( when 1 ( times 3 ( copy ; fill ) ) else ( when 0 ( ) ; turn ) ) ; do a )"


def told_whole(block):
    """A block as plain things: the class, and what it tells, all the way down."""
    whole = []
    for item in block:
        if isinstance(item, Deed):
            whole.append((type(item).__name__, item.words()))
        else:
            told = item.told()
            whole.append(tuple([told_whole(part) if isinstance(part, list) else part for part in told]))
    return whole


def text_of(block):
    """A block's text, written apart from the program."""
    parts = []
    for item in block:
        told = ("deed",) if isinstance(item, Deed) else item.told()
        if told[0] == "deed":
            parts.append(" ".join(item.words()))
        elif told[0] == "do":
            parts.append(f"do {told[1]}")
        else:
            parts.append(f"{told[0]} {told[1]} {text_of(told[2])}")
            if told[0] == "when" and told[3]:
                parts[-1] += f" else {text_of(told[3])}"
    return f"( {' ; '.join(parts)} )" if parts else "( )"


def number_within(word, low, high):
    return re.fullmatch(r"0|-?[1-9][0-9]{0,9}", word) is not None and low <= int(word) <= high


# What has to stand behind the first word of an item: kinds of words; "(" for a block.
BEHIND = {
    "set": ["box", (-10 ** 9, 10 ** 9)], "add": ["box", (-10 ** 9, 10 ** 9)], "take": ["box", "box"], "read": ["box"],
    "write": ["box"], "hop": [(0, 24)], "copy": [], "fill": [], "seek": [], "match": [], "shift": [], "turn": [],
    "do": ["name"], "times": [(0, 9), "("], "when": [(0, 1), "("],
}


def stands(word, kind):
    if kind == "box":
        return word in NAMES
    if kind == "name":
        return re.fullmatch("[a-z]{1,8}", word) is not None
    return number_within(word, *kind)


def next_let(word, opened, due, last):
    """One word of a block: (due, last) behind it, None where it can't stand. opened: for each block that is open,
    [what it belongs to, its items]; due: kinds of the words that have to come; last: what was ended just now."""
    if due and due[0] == "(":
        if word != "(" or len(opened) == 4:
            return None
        opened.append([last, 0])
        return due[1:], "("
    if due and due[0] != "item":
        return (due[1:], last) if stands(word, due[0]) else None
    if word in BEHIND and (last == "(" or due) and opened[-1][1] < 24:
        opened[-1][1] += 1
        return BEHIND[word], word
    if due:
        return None
    if word == ")":
        return [], opened.pop()[0] + " block"
    if word == ";" and last != "(" and opened[-1][1] < 24:
        return ["item"], last
    if word == "if" and last == "hop":
        return [(0, 1)], "hop if"
    if word == "else" and last == "when block":
        return ["("], "else"
    return None


def fault(text):
    """The number of the first word that can't stand where it stands, None where the text writes a block."""
    words, opened, due, last = text.split(" "), [], ["("], "top"
    for at, word in enumerate(words):
        if last == "top block":
            return at
        let = next_let(word, opened, due, last)
        if let is None:
            return at
        due, last = let
    return None if last == "top block" else len(words)


class Asked(unittest.TestCase):
    def no_text(self, at, text, read=read_block):
        with self.subTest(repr(text)):
            self.assertEqual(refused(self, NoText, read, text).at, at)


class ShownAndRead(Asked):
    def both(self, text, block):
        self.assertEqual(show_block(block), text)
        read = read_block(text)
        self.assertIs(type(read), list)
        self.assertEqual(told_whole(read), told_whole(block))
        self.assertEqual(show_block(read), text)
        self.assertIsNone(fault(text))

    def test_each_deed_and_item(self):
        for text, item in ITEMS:
            self.both(f"( {text} )", [item])
            self.both(f"( {text} ; {text} )", [item, item])
            self.both(f"( times 3 ( {text} ) )", [Times(3, [item])])
            self.both(f"( when 0 ( {text} ) )", [When(0, [item])])
            self.both(f"( when 0 ( ) else ( {text} ; copy ) )", [When(0, [], [item, Copy()])])

    def test_each_item_behind_each(self):
        for one, item in ITEMS:
            for other, another in ITEMS:
                self.both(f"( {one} ; {other} )", [item, another])

    def test_the_empty_block(self):
        self.both("( )", [])

    def test_each_number(self):
        for many in range(10):
            self.both(f"( times {many} ( ) )", [Times(many, [])])
        for many in range(25):
            self.both(f"( hop {many} )", [Hop(many)])
            self.both(f"( hop {many} if 1 )", [Hop(many, 1)])
        for number in (-10 ** 9, -999999999, -10, -9, -1, 0, 1, 9, 10, 999999999, 10 ** 9):
            for box in NAMES:
                self.both(f"( set {box} {number} ; add {box} {number} )", [Set(box, number), Add(box, number)])

    def test_four_deep(self):
        self.both("( times 1 ( times 2 ( times 3 ( ) ) ) )", [Times(1, [Times(2, [Times(3, [])])])])
        self.both("( when 1 ( when 0 ( when 1 ( copy ) else ( fill ) ) ) )",
                  [When(1, [When(0, [When(1, [Copy()], [Fill()])])])])
        self.both(DEEP, [Times(2, [When(1, [Times(3, [Copy(), Fill()])], [When(0, []), Turn()])]), Do("a")])

    def test_twenty_four_items(self):
        self.both(f"( {' ; '.join(['copy'] * 24)} )", [Copy()] * 24)
        inner = f"( {' ; '.join(['do a'] * 24)} )"
        self.both(f"( {' ; '.join([f'times 2 {inner}'] * 24)} )", [Times(2, [Do("a")] * 24)] * 24)

    def test_else_of_the_empty_block(self):
        for text, shown in (("( when 1 ( copy ) else ( ) )", "( when 1 ( copy ) )"),
                            ("( when 0 ( ) else ( ) ; fill )", "( when 0 ( ) ; fill )")):
            self.assertEqual(show_block(read_block(text)), shown)
            self.assertEqual(read_block(text)[0].told()[3], [])
        self.assertEqual(show_block([When(1, [Copy()], [])]), "( when 1 ( copy ) )")

    def test_names(self):
        for name in ("a", "z", "abcdefgh", "if", "else", "do", "times", "when", "and", "here", "copy"):
            self.both(f"( do {name} ; do {name} )", [Do(name), Do(name)])

    def test_what_is_read_is_as_what_is_made(self):
        rows = read_block("( set left 2 ; fill ; hop 0 ; write left )")
        machine = Machine(rows, Store([7, 8, 9]), Boxes(0, 0, 0, 1, 5))
        self.assertEqual((machine.run(9), machine.state()), (("end", 5), (4, (0, 2, 0, 1, 5, 0), [5, 5, 0])))

    def test_what_was_told_changed_behind_the_call(self):
        text = "( copy ; times 2 ( fill ) )"
        told = read_block(text)
        told.clear()
        block = [Copy(), Times(2, [Fill()])]
        self.assertEqual((show_block(read_block(text)), show_block(block), show_block(block)), (text,) * 3)
        self.assertEqual(len(block), 2)
        kept = show_block(block)
        block.pop()
        self.assertEqual((kept, show_block(block)), (text, "( copy )"))

    def test_many_blocks(self):
        for seed in range(500):
            chance = random.Random(seed)
            block = block_by(chance, 4, ["a", "and", "haulbell"], chance.choice([3, 6, 9]))
            self.both(text_of(block), block)


class Refused(Asked):
    def test_what_is_no_text(self):
        for text in no_texts() + [Store([1]), Copy(), [Copy()], ["(", ")"], ("( )",)]:
            self.no_text(-1, text)
            self.no_text(-1, text, read_state)

    def test_no_sign_and_blanks(self):
        for text, at in (("", 0), (" ", 0), ("  ", 0), (" ( )", 0), ("( ) ", 2), ("(  )", 1), ("( copy  )", 2),
                         ("( copy )  ", 3), ("( set  left 2 )", 2), ("( copy ;  fill )", 3), ("( set left  2 )", 3)):
            self.no_text(at, text)

    def test_first_words(self):
        for text in ("copy", ")", "x", "( ", "((", "()", "(copy", "()\n", "\t( )", "[ ]", "(\n)", "\uff08"):
            self.no_text(1 if text == "( " else 0, text)

    def test_words_behind_the_end(self):
        for text in ("( )", "( copy )", DEEP):
            for more in (")", "(", ";", "copy", "", "( )", "and ( )"):
                self.no_text(len(text.split(" ")), f"{text} {more}")

    def test_texts_that_end_too_soon_at_each_word(self):
        for text in [f"( {item} )" for item, made in ITEMS] + [DEEP, "( when 1 ( copy ) else ( ) )"]:
            words = text.split(" ")
            for many in range(1, len(words)):
                self.no_text(many, " ".join(words[:many]))

    def test_numbers_in_wrong_figures(self):
        for word in ("00", "01", "-0", "-00", "-01", "+1", "+0", "--1", "-", "+", "1.0", "1e3", "0x1", "1_0", "1-",
                     "one", "\u0661", "\u00b2", "\uff11", "1\n", "", "12345678901", "-12345678901", "00000000001",
                     "1,0", "True"):
            for text, at in (("( set here {} )", 3), ("( add there {} )", 3), ("( hop {} )", 2), ("( hop 1 if {} )", 4),
                             ("( times {} ( ) )", 2), ("( when {} ( ) )", 2)):
                self.no_text(at, text.replace("{}", word))

    def test_numbers_beyond(self):
        for text, at, words in (
                ("( set way {} )", 3, (10 ** 9 + 1, -10 ** 9 - 1, 9999999999, -9999999999)),
                ("( add left {} )", 3, (10 ** 9 + 1, -10 ** 9 - 1, 9999999999, -9999999999)),
                ("( hop {} )", 2, (-1, 25, 26, 10 ** 9)), ("( hop {} if 1 )", 2, (-1, 25, 10 ** 9)),
                ("( hop 24 if {} )", 4, (-1, 2, 10 ** 9)), ("( times {} ( copy ) )", 2, (-1, 10, 11, 10 ** 9)),
                ("( when {} ( copy ) else ( ) )", 2, (-1, 2, 10 ** 9))):
            for word in words:
                self.no_text(at, text.replace("{}", str(word)))

    def test_names_that_are_none(self):
        for name in ("", "A", "abcdefghi", "a1", "1", "a_b", "a-b", "(", ")", ";", "\u00e4", "a\n"):
            self.no_text(2, f"( do {name} )")
            self.no_text(4, f"( copy ; do {name} ; fill )")

    def test_boxes_that_are_none(self):
        for box in ("", "Here", "heres", "1", "copy", "(", ")", ";"):
            for text, at in (("( set {} 1 )", 2), ("( add {} 1 )", 2), ("( take {} here )", 2), ("( take here {} )", 3),
                             ("( read {} )", 2), ("( write {} )", 2)):
                self.no_text(at, text.replace("{}", box))

    def test_a_fifth_block_within_one_another(self):
        for item in ("times 1 ( )", "when 1 ( )", "when 1 ( ) else ( )", "times 1 copy", "when 0"):
            self.no_text(14, f"( times 1 ( when 0 ( times 2 ( copy ; {item} ) ) ) )")
        self.no_text(13, "( times 1 ( when 0 ( times 2 ( copy ; times 10 ( ) ) ) ) )")
        self.no_text(15, "( when 1 ( ) else ( times 1 ( times 1 ( times 1 ( ) ) ) ) )")
        self.assertEqual(len(read_block("( times 1 ( ) ; times 1 ( ) ; times 1 ( ) ; times 1 ( ) ; times 1 ( ) )")), 5)

    def test_a_twenty_fifth_item(self):
        for item in ("copy", "hop 2", "hop 2 if 1", "times 2 ( fill )", "when 1 ( )", "when 1 ( ) else ( fill )"):
            text = f"( {' ; '.join([item] * 24)} ; copy )"
            at = 24 * (len(item.split(" ")) + 1)
            self.assertEqual(text.split(" ")[at], ";")
            self.no_text(at, text)
            self.no_text(at + 3, f"( times 1 {text} )")

    def test_words_between_items(self):
        for text, at in (("( ; )", 1), ("( copy ; )", 3), ("( copy ; ; fill )", 3), ("( copy fill )", 2),
                         ("( copy 1 )", 2), ("( hop 1 copy )", 3), ("( hop 1 if 1 if 1 )", 5), ("( copy if 1 )", 2),
                         ("( copy else ( ) )", 2),
                         ("( times 1 ( ) else ( ) )", 5), ("( when 1 ( ) else ( ) else ( ) )", 8),
                         ("( when 1 ( ) if 1 )", 5), ("( when 1 ( ) ; else ( ) )", 6), ("( times 1 copy )", 3),
                         ("( when 1 else ( ) )", 3), ("( when 1 ( ) else copy )", 6), ("( ( ) )", 1), ("( if 1 )", 1),
                         ("( and )", 1), ("( COPY )", 1), ("( do a b )", 3), ("( set left 1 2 )", 4)):
            self.no_text(at, text)
            self.assertEqual(fault(text), at)

    def test_made_good_it_is_taken(self):
        text = "( set here 1000000001 ; copy )"
        self.no_text(3, text)
        text = "( set here 1000000000 ; copy )"
        self.assertEqual(show_block(read_block(text)), text)

    WORDS = ["(", ")", ";", "if", "else", "and", "", "0", "1", "2", "9", "10", "24", "25", "-1", "00", "here", "met",
             "x", "abcdefghi"] + list(BEHIND)

    def test_against_a_second_reading(self):
        seen = {"good": 0, "bad": 0}
        for seed in range(4000):
            chance = random.Random(seed)
            words = text_of(block_by(chance, 4, ["a", "if"], chance.choice([2, 4, 6]))).split(" ")
            for turn in range(chance.choice([1, 1, 2])):
                at, kind = chance.randrange(len(words) + 1), chance.choice(["in", "out", "other"])
                words[at:at if kind == "in" else at + 1] = [] if kind == "out" else [chance.choice(self.WORDS)]
            text = " ".join(words)
            wanted = fault(text)
            if wanted is None:
                seen["good"] += 1
                self.assertEqual(show_block(read_block(text)), text.replace(" else ( )", ""))
            else:
                seen["bad"] += 1
                self.no_text(wanted, text)
        self.assertGreater(min(seen.values()), 100)

    def test_deep_and_long_blocks_against_a_second_reading(self):
        for seed in range(600):
            chance = random.Random(seed)
            text = "(" + " times 1 (" * chance.randrange(5)
            while chance.randrange(30):
                text += chance.choice([" copy ;"] * 12 + [" times 1 (", " )", " copy ) ;", " copy )"])
            text += chance.choice([" )", " ) )", " copy ) )", " copy ) ) )", ""])
            wanted = fault(text)
            if wanted is None:
                self.assertEqual(show_block(read_block(text)), text)
            else:
                self.no_text(wanted, text)


def state_text(state, leaves):
    at, boxes, cells = state
    letters = "".join(word[0] for word in leaves)
    return " ".join([str(at), " ".join(map(str, boxes)), letters, " ".join(map(str, cells))])


class States(Asked):
    def both(self, text, state, leaves):
        self.assertEqual(show_state(state, leaves), text)
        told = read_state(text)
        self.assertEqual(told, (state, leaves))
        kinds = [type(thing) for thing in (told, told[0], told[0][0], told[0][1], told[0][2], told[1])]
        self.assertEqual(kinds, [tuple, tuple, int, tuple, list, list])

    def test_by_hand(self):
        self.both("0 0 0 0 1 0 0 o 7", (0, (0, 0, 0, 1, 0, 0), [7]), ["open"])
        self.both("24 -5 -1000000000 1000000000 -1 3 1 ols 0 1000000000 8",
                  (24, (-5, -10 ** 9, 10 ** 9, -1, 3, 1), [0, 10 ** 9, 8]), ["open", "look", "shut"])

    def test_sixty_cells(self):
        cells, leaves = [10 ** 9 - cell for cell in range(60)], (LEAVES * 20)
        state = (3, (0, 0, 0, 1, 0, 0), cells)
        self.both(f"3 0 0 0 1 0 0 {'ols' * 20} {' '.join(map(str, cells))}", state, leaves)

    def test_each_row_and_what_boxes_hold(self):
        for at in range(25):
            self.both(f"{at} 0 0 0 1 0 0 l 7", (at, (0, 0, 0, 1, 0, 0), [7]), ["look"])
        for place, box in enumerate(NAMES):
            for number in FITTING[box]:
                boxes = (0, 0, 0, 1, 0, 0)
                boxes = boxes[:place] + (number,) + boxes[place + 1:]
                self.both(state_text((2, boxes, [7]), ["shut"]), (2, boxes, [7]), ["shut"])

    def test_states_of_machines(self):
        for seed in range(200):
            chance = random.Random(seed)
            rows, store, boxes = machine_things(chance)
            machine = Machine(rows, store, boxes)
            machine.run(chance.randrange(20))
            text = state_text(machine.state(), machine.leaves())
            self.both(text, machine.state(), machine.leaves())
            state, leaves = read_state(text)
            other = Machine(rows, store_of(state[2], leaves), Boxes(*state[1]), state[0])
            self.assertEqual((other.run(10 ** 6), other.state()), (machine.run(10 ** 6), machine.state()))

    WORDS = "3 1 2 3 1 4 0 olsoo 7 8 9 10 11".split(" ")

    def with_word(self, at, word):
        words = list(self.WORDS)
        words[at] = word
        return " ".join(words)

    def test_wrong_figures_at_each_place(self):
        for word in ("", "00", "01", "-0", "+1", "--1", "-", "1.0", "x", "12345678901", "00000000000", "\u0661",
                     "1\n", "o"):
            for at in range(len(self.WORDS)):
                if at != 7:
                    self.no_text(at, self.with_word(at, word), read_state)

    def test_numbers_beyond(self):
        for word in ("-1", "25", "26", "1000000000", "9999999999"):
            self.no_text(0, self.with_word(0, word), read_state)
        for place, box in enumerate(NAMES):
            for number in BEYOND[box] + [9999999999, -9999999999]:
                self.no_text(1 + place, self.with_word(1 + place, str(number)), read_state)
        for at in range(8, 13):
            for word in ("-1", "1000000001", "9999999999"):
                self.no_text(at, self.with_word(at, word), read_state)

    def test_letters_that_are_none(self):
        for word in ("", "O", "olsx", "olso1", "open", "o,l", "12345", "-", "oooo\n", "o" * 61, "l" * 300):
            self.no_text(7, self.with_word(7, word), read_state)

    def test_too_few_and_too_many_contents(self):
        self.no_text(13, self.with_word(7, "olsoooo"), read_state)
        self.no_text(13, self.with_word(7, "olsooo"), read_state)
        self.no_text(12, self.with_word(7, "olso"), read_state)
        self.no_text(9, self.with_word(7, "o"), read_state)
        text = " ".join(self.WORDS)
        for more in (" 5", " x", " ", " o", " 5 5"):
            self.no_text(13, text + more, read_state)
        self.no_text(68, f"0 0 0 0 1 0 0 {'o' * 60} {' '.join(['5'] * 61)}", read_state)
        self.no_text(67, f"0 0 0 0 1 0 0 {'o' * 60} {' '.join(['5'] * 59)}", read_state)

    def test_texts_that_end_too_soon_at_each_word(self):
        for many in range(1, 13):
            self.no_text(many, " ".join(self.WORDS[:many]), read_state)

    def test_no_sign_and_blanks(self):
        text = " ".join(self.WORDS)
        for spoilt, at in (("", 0), (" ", 0), (" " + text, 0), (text + " ", 13), (text.replace(" ", "  ", 1), 1)):
            self.no_text(at, spoilt, read_state)

    def test_the_first_word_that_cannot_stand(self):
        self.no_text(2, "3 1 x 3 1 4 2 olz 7 8", read_state)
        self.no_text(6, "3 1 2 3 1 4 2 olz 7 8", read_state)
        self.no_text(7, "3 1 2 3 1 4 1 olz 7 8", read_state)
        self.no_text(8, "3 1 2 3 1 4 1 ols -7", read_state)

    def test_what_was_told_changed_behind_the_call(self):
        text = "3 1 2 3 1 4 0 ols 7 8 9"
        state, leaves = read_state(text)
        state[2].clear()
        leaves[0] = "shut"
        self.assertEqual(read_state(text), ((3, (1, 2, 3, 1, 4, 0), [7, 8, 9]), ["open", "look", "shut"]))
        state, leaves = read_state(text)
        for turn in range(2):
            self.assertEqual(show_state(state, leaves), text)
        self.assertEqual((state[2], leaves), ([7, 8, 9], ["open", "look", "shut"]))


if __name__ == "__main__":
    unittest.main()
