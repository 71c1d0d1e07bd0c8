import random
import unittest

from haulbell.book import Book, flat
from haulbell.boxes import Boxes
from haulbell.desk import Desk
from haulbell.errors import (
    HaulError, NoBack, NoFit, NoFlat, NoLeave, NoName, NoPlace, NoRow, NoRows, NoStore, NotBlind)
from haulbell.likeness import alike
from haulbell.longs import Copy
from haulbell.store import Store
from haulbell.texts import show_block, show_state
from helper import BEYOND, FITTING, LEAVES, NAMES, block_by, deed_of, laid, no_texts, refused, run_model

AT_FIRST = (0, 0, 0, 1, 0, 0)


def desk_of(*rows):
    desk = Desk()
    for row in rows:
        desk.say(row)
    return desk


class Asked(unittest.TestCase):
    def says(self, desk, row, answer):
        told = desk.say(row)
        self.assertEqual(told, answer, row)
        self.assertIs(type(told), str)

    def all_of(self, desk):
        """All that can be asked of a desk with a machine: its state, and by back, which it doesn't do, its log."""
        return desk.say("state"), desk.say("why"), self.logged(desk)

    def logged(self, desk):
        """How many entries the log has: back is refused beyond it. It is asked from above, so nothing is taken back."""
        many = 99
        while many > 0:
            try:
                desk.say(f"back {many}")
            except NoBack:
                many -= 1
                continue
            desk.say(f"run {many}")
            return many
        return 0

    def no(self, desk, error_class, row, **fields):
        with self.subTest(repr(row)):
            self.assertEqual(vars(refused(self, error_class, desk.say, row)), fields)


class Rows(Asked):
    def test_cells(self):
        for cells in ("7", "0 1000000000", " ".join(["5"] * 60)):
            desk = Desk()
            self.says(desk, f"cells {cells}", "ok")
            self.says(desk, "rows ( copy )", "ok")
            self.says(desk, "state", f"0 0 0 0 1 0 0 {'o' * len(cells.split())} {cells}")

    def test_cells_once_more(self):
        desk = desk_of("name a ( fill )", "cells 1 2 3", "box here 2", "box way -1", "leave 0 2 shut", "rows ( do a )",
                       "box left 2", "run 1")
        self.says(desk, "cells 7 8", "ok")
        for row in ("run 1", "back 0", "why", "state", "load 0 0 0 0 1 0 0 oo 7 8"):
            self.no(desk, NoRows, row, at=-1)
        self.says(desk, "rows ( do a )", "ok")
        self.says(desk, "state", "0 0 0 0 1 0 0 oo 7 8")

    def test_name(self):
        desk = Desk()
        self.says(desk, "name a ( copy )", "ok")
        self.says(desk, "name b ( times 2 ( do a ) ; fill )", "ok")
        self.says(desk, "name empty ( )", "ok")
        desk.say("cells 1 2 3 4")
        self.says(desk, "rows ( do b ; do empty )", "ok")
        self.says(desk, "run 9", "end 3")

    def test_name_refused(self):
        desk = desk_of("name a ( copy )")
        for word in ("A", "a1", "abcdefghi", "(", ")", ";", "1", "-", "a"):
            self.no(desk, NoName, f"name {word} ( copy )", word=word)
            self.no(desk, NoName, f"name {word} ( do x )", word=word)
        self.no(desk, NoName, "name b ( do a ; times 0 ( do x ) ; do y )", word="x")
        self.no(desk, NoName, "name b ( do b )", word="b")
        self.no(desk, NoName, "name b ( when 1 ( do x ) else ( do y ) )", word="x")
        self.says(desk, "name x ( )", "ok")
        self.says(desk, "name y ( do a )", "ok")
        self.says(desk, "name b ( when 1 ( do x ) else ( do y ) )", "ok")

    def test_names_stay_behind_all_rows(self):
        desk = desk_of("name a ( copy )", "cells 1 2 3 4", "rows ( do a )", "box left 2", "run 1", "back 1",
                       "leave 0 1 look", "load 0 0 0 0 1 0 0 oo 7 8", "alike ( do a ) and ( copy )", "cells 9")
        self.says(desk, "rows ( do a ; do a )", "ok")
        self.no(desk, NoName, "name a ( fill )", word="a")

    def test_rows(self):
        desk = desk_of("cells 7 8 9", "box sign 5", "leave 1 2 look")
        self.says(desk, "rows ( set left 3 ; fill )", "ok")
        self.says(desk, "state", "0 0 0 0 1 5 0 olo 7 8 9")
        self.says(desk, "run 9", "stop 2")
        self.says(desk, "why", "1 put 1")

    def test_rows_once_more(self):
        desk = desk_of("cells 7 8 9", "box sign 5", "leave 2 3 look", "rows ( set left 2 ; fill )", "run 9")
        self.says(desk, "rows ( write left ; add here 1 )", "ok")
        self.says(desk, "state", "0 0 2 0 1 5 0 ool 5 5 9")
        self.no(desk, NoBack, "back 1", many=1)
        self.says(desk, "run 9", "stop 0")
        desk.say("leave 2 3 open")
        self.says(desk, "run 9", "end 2")
        self.says(desk, "state", "2 1 2 0 1 5 0 ooo 5 5 0")

    def test_rows_refused(self):
        desk = desk_of("name many ( times 9 ( copy ; copy ; copy ) )", "cells 7 8 9", "rows ( set left 2 ; fill )",
                       "run 2")
        before = self.all_of(desk)
        self.no(desk, NoName, "rows ( do many ; do x )", word="x")
        self.no(desk, NoFlat, "rows ( )", many=0)
        self.no(desk, NoFlat, "rows ( do many )", many=27)
        self.no(desk, NoFlat, f"rows ( when 1 ( copy ) ; {' ; '.join(['copy'] * 23)} )", many=25)
        self.assertEqual(self.all_of(desk), before)
        self.says(desk, "rows ( hop 0 )", "ok")

    def test_box_ahead_of_rows(self):
        for box, place in zip(NAMES, range(6)):
            for number in FITTING[box]:
                desk = desk_of("cells 7")
                self.says(desk, f"box {box} {number}", "ok")
                desk.say("rows ( copy )")
                numbers = [str(number) if at == place else str(AT_FIRST[at]) for at in range(6)]
                self.says(desk, "state", f"0 {' '.join(numbers)} o 7")

    def test_box_behind_rows(self):
        desk = desk_of("cells 7 8 9", "leave 2 3 look", "rows ( set left 2 ; fill ; hop 0 )", "run 2")
        self.says(desk, "state", "1 0 1 1 1 0 0 ool 0 8 9")
        self.says(desk, "box sign 6", "ok")
        self.says(desk, "state", "1 0 1 1 1 6 0 ool 0 8 9")
        self.no(desk, NoBack, "back 1", many=1)
        self.says(desk, "run 9", "end 2")
        self.says(desk, "state", "3 0 2 0 1 6 0 ool 0 6 9")
        self.says(desk, "back 2", "ok")
        self.says(desk, "state", "1 0 1 1 1 6 0 ool 0 8 9")

    def test_box_refused(self):
        for ahead in (True, False):
            for box in NAMES:
                desk = desk_of("cells 7 8 9", "box left 1")
                if not ahead:
                    desk = desk_of("cells 7 8 9", "rows ( set left 2 ; fill )", "run 2")
                    before = self.all_of(desk)
                for number in BEYOND[box] + [9999999999, -9999999999]:
                    self.no(desk, NoFit, f"box {box} {number}", box=box, number=number)
                if not ahead:
                    self.assertEqual(self.all_of(desk), before)
                    self.says(desk, "back 2", "ok")
                else:
                    desk.say("rows ( copy )")
                    self.says(desk, "state", "0 0 0 1 1 0 0 ooo 7 8 9")

    def test_leave_ahead_of_rows_and_behind_them(self):
        desk = desk_of("cells 7 8 9")
        self.says(desk, "leave 0 2 look", "ok")
        self.says(desk, "leave 1 3 shut", "ok")
        self.says(desk, "leave 1 1 open", "ok")
        desk.say("rows ( set left 3 ; fill )")
        self.says(desk, "state", "0 0 0 0 1 0 0 lss 7 8 9")
        desk.say("run 1")
        self.says(desk, "leave 0 1 open", "ok")
        self.says(desk, "run 9", "stop 1")
        self.says(desk, "leave 0 3 open", "ok")
        self.says(desk, "run 9", "end 2")
        self.says(desk, "leave 0 3 shut", "ok")
        self.says(desk, "back 4", "ok")
        self.says(desk, "state", "0 0 0 0 1 0 0 sss 7 8 9")
        desk.say("rows ( copy )")
        self.says(desk, "state", "0 0 0 0 1 0 0 sss 7 8 9")

    def test_leave_refused(self):
        for rows in ([], ["rows ( set left 2 ; fill )"]):
            desk = desk_of("cells 7 8 9", "leave 1 2 look", *rows)
            for low, behind, word in ((-1, 2, "open"), (2, 1, "open"), (0, 4, "open"), (4, 4, "open"), (0, 1, "Open"),
                                      (0, 1, "o"), (0, 1, "("), (0, 9999999999, "shut"), (-9999999999, 0, "shut")):
                self.no(desk, NoLeave, f"leave {low} {behind} {word}", low=low, behind=behind, word=word)
            desk.say("rows ( copy )")
            self.says(desk, "state", "0 0 0 0 1 0 0 olo 7 8 9")

    def test_run(self):
        desk = desk_of("cells 7 8 9", "rows ( set left 3 ; fill )")
        self.says(desk, "run 0", "bell 0")
        self.says(desk, "run 1", "bell 1")
        self.says(desk, "run 2", "bell 2")
        self.says(desk, "run 1000000", "end 1")
        self.says(desk, "run 0", "end 0")
        desk = desk_of("cells 7", "rows ( set left 3 ; fill )")
        self.says(desk, "run 1000000", "stop 2")
        self.says(desk, "run 1", "stop 0")
        self.says(desk, "run 0", "bell 0")

    def test_back(self):
        desk = desk_of("cells 7 8 9", "rows ( set left 3 ; fill )", "run 3")
        self.says(desk, "back 0", "ok")
        self.says(desk, "back 1", "ok")
        self.says(desk, "state", "1 0 1 2 1 0 0 ooo 0 8 9")
        for many in (3, 4, -1, 9999999999, -9999999999):
            self.no(desk, NoBack, f"back {many}", many=many)
        self.says(desk, "back 2", "ok")
        self.says(desk, "state", "0 0 0 0 1 0 0 ooo 7 8 9")
        self.no(desk, NoBack, "back 1", many=1)
        self.says(desk, "run 9", "end 4")

    def test_why(self):
        desk = desk_of("cells 7 8 9", "rows ( add left -1 ; fill ; copy ; turn )")
        self.says(desk, "why", "0 fit left")
        desk.say("box left 5")
        self.says(desk, "why", "nothing")
        self.says(desk, "run 9", "stop 4")
        self.says(desk, "why", "1 put 3")
        desk.say("load 3 -1 0 3 1 0 0 ooo 7 8 9")
        self.says(desk, "why", "3 look -1")
        desk.say("load 4 -1 0 3 1 0 0 ooo 7 8 9")
        self.says(desk, "why", "nothing")

    def test_load(self):
        desk = desk_of("cells 7 8 9", "rows ( set left 2 ; fill ; hop 0 )", "run 2")
        self.says(desk, "load 1 4 1 2 -1 6 1 ol 10 20", "ok")
        self.says(desk, "state", "1 4 1 2 -1 6 1 ol 10 20")
        self.no(desk, NoBack, "back 1", many=1)
        self.says(desk, "run 9", "stop 0")
        self.says(desk, "why", "1 put 1")
        self.says(desk, "leave 1 2 open", "ok")
        self.says(desk, "run 9", "end 3")
        self.says(desk, "state", "3 4 -1 0 -1 6 1 oo 6 6")
        self.says(desk, "rows ( write met )", "ok")
        self.says(desk, "state", "0 4 -1 0 -1 6 1 oo 6 6")

    def test_load_of_more_and_of_fewer_cells(self):
        desk = desk_of("cells 7 8 9", "rows ( set left 2 ; fill )")
        for size in (1, 2, 3, 4, 60):
            cells = " ".join([str(cell) for cell in range(size)])
            self.says(desk, f"load 0 0 0 0 1 5 0 {'o' * size} {cells}", "ok")
            self.says(desk, "state", f"0 0 0 0 1 5 0 {'o' * size} {cells}")
            self.no(desk, NoLeave, f"leave 0 {size + 1} look", low=0, behind=size + 1, word="look")
            self.says(desk, "alike ( write sign ) and ( write left )", f"parted 1 cell 0{' 0' * size}")
            self.says(desk, "run 9", "end 3" if size > 1 else "stop 2")

    def test_load_of_a_row_beyond(self):
        desk = desk_of("cells 7 8 9", "rows ( set left 2 ; fill )", "run 2")
        before = self.all_of(desk)
        for at in (3, 4, 24):
            self.no(desk, NoPlace, f"load {at} 0 0 0 1 0 0 oo 7 8", at=at)
        self.assertEqual(self.all_of(desk), before)
        self.says(desk, "load 2 0 0 0 1 0 0 oo 7 8", "ok")
        self.says(desk, "run 9", "end 0")
        desk = desk_of("cells 7", f"rows ( {' ; '.join(['hop 0'] * 24)} )")
        self.says(desk, "load 24 0 0 0 1 0 0 oo 7 8", "ok")

    def test_alike(self):
        desk = desk_of("cells 7 8 9")
        self.says(desk, "alike ( set left 2 ) and ( add left 2 )", "alike")
        self.says(desk, "alike ( write sign ) and ( hop 0 )", "parted 1 cell 0 1 0 0")
        self.says(desk, "alike ( hop 0 ; set way -1 ) and ( hop 0 )", "parted 2 box way 0 0 0")
        desk.say("box there 2")
        self.says(desk, "alike ( write sign ) and ( hop 0 )", "parted 1 cell 2 0 0 1")
        desk.say("box sign 1")
        self.says(desk, "alike ( write sign ) and ( hop 0 )", "parted 1 cell 2 0 0 0")
        desk.say("leave 0 3 shut")
        self.says(desk, "alike ( write sign ) and ( hop 0 )", "parted 1 cell 2 0 0 0")

    def test_alike_behind_rows(self):
        desk = desk_of("cells 7 8 9", "rows ( add there 1 ; write sign ; add there 9 )", "run 2")
        before = self.all_of(desk)
        self.says(desk, "alike ( write sign ) and ( hop 0 )", "parted 1 cell 1 0 1 0")
        self.assertEqual(self.all_of(desk), before)
        desk.say("run 1")
        self.says(desk, "alike ( write sign ) and ( hop 0 )", "alike")
        desk.say("back 3")
        self.says(desk, "alike ( write sign ) and ( hop 0 )", "parted 1 cell 0 1 0 0")
        desk.say("box there 2")
        self.says(desk, "alike ( write sign ) and ( hop 0 )", "parted 1 cell 2 0 0 1")

    def test_alike_with_the_word_and_as_a_name(self):
        desk = desk_of("name and ( write sign )", "cells 7 8")
        self.says(desk, "alike ( do and ; do and ) and ( do and )", "alike")
        self.says(desk, "alike ( times 2 ( do and ) ) and ( when 1 ( do and ) else ( do and ) )", "parted 1 cell 0 1 0")
        self.says(desk, "alike ( hop 1 ; do and ) and ( do and )", "parted 1 cell 0 1 0")

    def test_alike_refused(self):
        desk = desk_of("name many ( times 9 ( copy ; copy ; copy ) )", "cells 7 8 9", "rows ( set left 2 ; fill )",
                       "run 2")
        before = self.all_of(desk)
        self.no(desk, NoName, "alike ( do x ) and ( do y )", word="x")
        self.no(desk, NoName, "alike ( do many ; do x ) and ( do y )", word="x")
        self.no(desk, NoName, "alike ( seek ) and ( do y )", word="y")
        self.no(desk, NoFlat, "alike ( ) and ( do y )", many=0)
        self.no(desk, NoFlat, "alike ( do many ) and ( do y )", many=27)
        self.no(desk, NoFlat, "alike ( seek ) and ( )", many=0)
        self.no(desk, NoName, "alike ( copy ) and ( do many ; do x )", word="x")
        self.no(desk, NotBlind, "alike ( copy ; seek ) and ( match )", at=1)
        self.no(desk, NotBlind, "alike ( copy ) and ( copy ; fill ; read left )", at=2)
        self.assertEqual(self.all_of(desk), before)

    def test_the_log_behind_each_row(self):
        for row, left in (("name b ( copy )", 3), ("leave 0 1 shut", 3), ("run 0", 3), ("run 1", 4), ("back 1", 2),
                          ("why", 3), ("state", 3), ("alike ( copy ) and ( fill )", 3), ("rows ( hop 0 )", 0),
                          ("box here 0", 0), ("box sign 5", 0), ("load 1 0 1 1 1 0 0 ooo 0 8 9", 0)):
            desk = desk_of("cells 7 8 9", "rows ( set left 2 ; fill ; hop 0 )", "run 3")
            desk.say(row)
            self.no(desk, NoBack, f"back {left + 1}", many=left + 1)
            self.says(desk, f"back {left}", "ok")


class NoRowAtAll(Asked):
    BAD = [
        "", " ", "x", "Cells 1", "cells", "cells ", "cells x", "cells -1", "cells 1000000001", "cells 1 -1", "cells 01",
        "cells 1  2", "cells 1 2 ", " cells 1", "cells +1", "cells 12345678901", "cells 1 x", "cells 1,2",
        "name", "name a", "name  ( copy )", "name a copy", "name a ( copy ) x", "name a ( copy ) ", "name a ( x )",
        "name a  ( copy )", "name ( copy )", "name a ( copy", "name a ( set left 1000000001 )",
        "rows", "rows ", "rows copy", "rows ( copy", "rows ( copy ) ( copy )", "rows ( copy ) x", "rows  ( copy )",
        "rows ( times 10 ( copy ) )", "rows ( do A )", "rows ( hop 25 )",
        "box", "box here", "box here x", "box here 1 2", "box heres 1", "box 1 here", "box here 01", "box here -0",
        "box here +1", "box here 12345678901", "box  1", "box here ", "box Here 1", "box here 1 ",
        "leave", "leave 0", "leave 0 1", "leave 0 1 ", "leave 0 1 open open", "leave x 1 open", "leave 0 x open",
        "leave 00 1 open", "leave 0 -0 open", "leave 0 1 open ", "leave 0 12345678901 open", "leave  0 1 open",
        "run", "run x", "run -1", "run 1000001", "run 9999999999", "run 01", "run 1 1", "run ", "run 1 ", "run +1",
        "run -0", "run 12345678901", "Run 1",
        "back", "back x", "back 01", "back -0", "back 1 1", "back ", "back 12345678901", "back +1",
        "why 1", "why ", "why x", "whys", " why", "state 1", "state ", "states",
        "load", "load ", "load x", "load 0 0 0 0 1 0 0 o", "load 0 0 0 0 1 0 0 o 7 8", "load 25 0 0 0 1 0 0 o 7",
        "load 0 0 0 0 0 0 0 o 7", "load 0 0 0 0 1 0 0 x 7", "load 0 0 0 0 1 0 2 o 7", "load -1 0 0 0 1 0 0 o 7",
        "load 0 0 0 0 1 0 0 o 1000000001", "load 0 0 0 0 1 0 0 oo 7 ", "load  0 0 0 0 1 0 0 o 7",
        "alike", "alike ( copy )", "alike ( copy ) and", "alike ( copy ) ( copy )", "alike and ( copy )",
        "alike ( copy ) and ( copy", "alike ( copy ) and ( copy ) x", "alike ( copy ) or ( copy )",
        "alike ( copy and ( copy )",
        "alike ( copy )  and ( copy )", "alike ( copy ) and ( copy ) and ( copy )", "alike ( copy ) and ( x )",
        "alike ( x ) and ( copy )", "alike copy and copy", "alike ( copy ) and ( copy ) ",
        "run\t1", "run\n1", "run 1\n", "why\n", "\u0661", "run \u0661", "log", "step", "why state",
    ]

    def long_ones(self):
        items = " ; ".join(["copy"] * 25)
        deep = "( times 1 ( times 1 ( times 1 ( times 1 ( copy ) ) ) ) )"
        states = f"load 0 0 0 0 1 0 0 {'o' * 61}{' 7' * 61}"
        return [f"cells{' 5' * 61}", f"rows ( {items} )", f"name b ( {items} )", f"alike ( copy ) and ( {items} )",
                f"rows {deep}", f"name b {deep}", f"alike {deep} and ( copy )", f"alike ( copy ) and {deep}", states]

    def test_at_each_desk(self):
        desks = [Desk(), desk_of("cells 7 8 9"), desk_of("cells 7 8 9", "rows ( set left 3 ; fill )", "run 2")]
        for desk in desks:
            for row in self.BAD + self.long_ones():
                with self.subTest(repr(row)):
                    self.assertIs(refused(self, NoRow, desk.say, row).row, row)
        self.no(desks[0], NoStore, "rows ( copy )", at=-1)
        self.no(desks[1], NoRows, "state", at=-1)
        self.says(desks[2], "state", "1 0 1 2 1 0 0 ooo 0 8 9")
        self.says(desks[2], "back 2", "ok")

    def test_what_is_no_text(self):
        for desk in (Desk(), desk_of("cells 7 8 9", "rows ( copy )")):
            for row in no_texts() + [Store([1]), Boxes(), Copy(), Book(), desk, ["why"], ("why",), ["cells", "1"]]:
                with self.subTest(repr(row)):
                    self.assertIs(refused(self, NoRow, desk.say, row).row, row)

    def test_numbers_at_the_edges_are_numbers(self):
        desk = desk_of("cells 7 8 9", "rows ( copy )")
        self.says(desk, "run 1000000", "end 1")
        self.no(desk, NoBack, "back 9999999999", many=9999999999)
        self.no(desk, NoBack, "back -9999999999", many=-9999999999)
        self.no(desk, NoFit, "box here 1000000001", box="here", number=1000000001)
        self.no(desk, NoFit, "box met 9999999999", box="met", number=9999999999)
        self.no(desk, NoLeave, "leave 0 9999999999 open", low=0, behind=9999999999, word="open")


class Order(Asked):
    NEED_A_STORE = ["rows ( copy )", "rows ( do x )", "rows ( )", "box here 1", "box here 9999999999",
                    "leave 0 1 open", "leave 5 1 x", "alike ( copy ) and ( copy )", "alike ( do x ) and ( copy )",
                    "alike ( seek ) and ( )"]
    NEED_A_MACHINE = ["run 0", "run 5", "back 0", "back -1", "why", "state", "load 0 0 0 0 1 0 0 o 7",
                      "load 24 0 0 0 1 0 0 o 7"]

    def test_ahead_of_the_first_cells(self):
        desk = Desk()
        for turn in range(2):
            for row in self.NEED_A_STORE + self.NEED_A_MACHINE:
                self.no(desk, NoStore, row, at=-1)
            refused(self, NoName, desk.say, "name a ( do x )")
            if turn == 0:
                desk.say("name a ( copy )")
        self.no(desk, NoName, "name A ( copy )", word="A")
        self.says(desk, "cells 1", "ok")

    def test_ahead_of_rows_and_behind_cells(self):
        desk = desk_of("cells 7 8 9")
        for turn in range(2):
            for row in self.NEED_A_MACHINE:
                self.no(desk, NoRows, row, at=-1)
            self.no(desk, NoName, "rows ( do x )", word="x")
            self.no(desk, NoFlat, "rows ( )", many=0)
            for row in self.NEED_A_MACHINE:
                self.no(desk, NoRows, row, at=-1)
            desk.say("rows ( copy )")
            for row in ("run 0", "back 0", "why", "state", "load 0 0 0 0 1 0 0 o 7"):
                desk.say(row)
            desk.say("cells 7 8")

    def test_no_row_ahead_of_no_store_and_no_rows(self):
        for desk in (Desk(), desk_of("cells 1")):
            for row in ("run 1000001", "back x", "why 1", "state ", "load 25 0 0 0 1 0 0 o 7", "rows ( copy", "box x 1",
                        "leave 0 1", "alike ( copy ) ( copy )"):
                self.assertIs(refused(self, NoRow, desk.say, row).row, row)

    def test_two_desks_by_turns(self):
        one, other, alone = Desk(), Desk(), Desk()
        rows = ["name a ( fill )", "cells 7 8 9", "box sign 5", "leave 2 3 look", "rows ( set left 3 ; do a )",
                "run 2", "state", "run 9", "why", "back 1", "state"]
        others = ["name a ( turn )", "cells 1 2", "box left 2", "leave 0 1 shut", "rows ( do a )",
                  "run 9", "state", "why", "leave 0 1 open", "run 9", "state"]
        told = [(one.say(row), other.say(another)) for row, another in zip(rows, others)]
        self.assertEqual([answer for answer, another in told], [alone.say(row) for row in rows])
        second = Desk()
        self.assertEqual([another for answer, another in told], [second.say(row) for row in others])
        self.no(Desk(), NoStore, "state", at=-1)


class Broken(Asked):
    def rows_of(self, chance):
        while True:
            block = block_by(chance, 3, [], 6)
            if 1 <= len(laid({}, block)) <= 24:
                return show_block(block)

    def begun(self, chance, block):
        cells = " ".join([str(chance.randrange(4)) for cell in range(chance.choice([1, 9, 20, 60]))])
        low = chance.randrange(len(cells.split()))
        return [f"cells {cells}", f"box here {chance.randrange(9)}", f"box there {chance.randrange(9)}",
                f"box left {chance.randrange(7)}", f"leave {low} {low + 1} {chance.choice(LEAVES)}", f"rows {block}"]

    def test_at_any_bell_gone_on_with_by_another_desk(self):
        for seed in range(80):
            chance = random.Random(seed)
            block = self.rows_of(chance)
            begun = self.begun(chance, block)
            whole, steps = desk_of(*begun), 0
            broken = desk_of(*begun)
            word, many = whole.say("run 1000000").split(" ")
            told = "bell"
            while told == "bell":
                state = broken.say("state")
                broken = desk_of("cells 5", f"rows {block}", f"load {state}")
                self.says(broken, "state", state)
                told, more = broken.say("run 1").split(" ")
                steps += int(more)
            self.assertEqual((told, steps), (word, int(many)))
            self.assertEqual((broken.say("state"), broken.say("why")), (whole.say("state"), whole.say("why")))


class Model:
    """A desk, written apart from the program, on blocks, lists and tuples."""

    def __init__(self):
        self.book, self.blocks = Book(), {}
        self.cells = self.rows = None

    def flat(self, block):
        """The words of the deeds, or the refusal that is due."""
        names = [item for item in show_block(block).split(" do ")[1:]]
        for name in names:
            if name.split(" ")[0] not in self.blocks:
                return NoName(name.split(" ")[0])
        pairs = laid(self.blocks, block)
        if not 1 <= len(pairs) <= 24:
            return NoFlat(len(pairs))
        return [deed.split(" ") if isinstance(deed, str) else deed.words() for path, deed in pairs]

    def name(self, word, block):
        if not (word.islower() and word.isalpha() and len(word) <= 8) or word in self.blocks:
            return NoName(word)
        told = self.flat(block)
        if isinstance(told, NoName):
            return told
        self.blocks[word] = block
        self.book.name(word, block)

    def new_cells(self, *cells):
        self.cells, self.leaves, self.boxes, self.rows = list(cells), ["open"] * len(cells), AT_FIRST, None

    def new_rows(self, block):
        told = self.flat(block)
        if not isinstance(told, list):
            return told
        self.rows, self.at, self.past = told, 0, []

    def box(self, box, number):
        if number in BEYOND[box]:
            return NoFit(box, number)
        numbers = dict(zip(NAMES, self.boxes))
        numbers[box] = number
        self.boxes, self.past = tuple(numbers.values()), []

    def leave(self, low, behind, word):
        if not 0 <= low <= behind <= len(self.cells) or word not in LEAVES:
            return NoLeave(low, behind, word)
        self.leaves[low:behind] = [word] * (behind - low)

    def run(self, most):
        steps = 0
        while True:
            now = (self.at, self.boxes, self.cells)
            (word, many), then, why = run_model(self.rows, now, self.leaves, min(1, most - steps))
            if many == 0:
                return f"{word} {steps}"
            self.past.append(now)
            self.at, self.boxes, self.cells = then
            steps += 1

    def back(self, many):
        if not 0 <= many <= len(self.past):
            return NoBack(many)
        if many > 0:
            self.at, self.boxes, self.cells = self.past[-many]
            self.past = self.past[:-many]

    def why(self):
        told = run_model(self.rows, (self.at, self.boxes, self.cells), self.leaves, 0)[2]
        return "nothing" if told is None else " ".join(map(str, told))

    def state(self):
        return show_state((self.at, self.boxes, self.cells), self.leaves)

    def load(self, at, boxes, cells, leaves):
        if at > len(self.rows):
            return NoPlace(at)
        self.at, self.boxes, self.cells, self.leaves, self.past = at, boxes, list(cells), list(leaves), []

    def alike(self, one, other):
        for block in (one, other):
            told = self.flat(block)
            if not isinstance(told, list):
                return told
        try:
            told = alike(flat(self.book, one), flat(self.book, other), Boxes(*self.boxes), len(self.cells))
        except NotBlind as refusal:
            return refusal
        if told == ("alike",):
            return "alike"
        return " ".join(map(str, told[:2] + told[3] + tuple(told[2])))

    def say(self, word, *things):
        if word not in ("name", "new_cells") and self.cells is None:
            return NoStore(-1)
        if word in ("run", "back", "why", "state", "load") and self.rows is None:
            return NoRows(-1)
        told = getattr(self, word)(*things)
        return "ok" if told is None else told


def row_of(chance, model):
    """Some row's text, with what a model is asked for it."""
    block = block_by(chance, chance.randrange(1, 5), list(model.blocks) + ["unknown"][chance.randrange(9):], 4)
    many, size = chance.choice([-1, 0, 0, 1, 1, 2, 5, 50]), len(model.cells or [0])
    kind = chance.choice(["name", "cells", "rows", "rows", "box", "box", "leave", "run", "run", "run", "run", "back",
                          "back", "why", "state", "load", "alike"])
    if kind == "name":
        word = chance.choice(["a", "b", "and", "haul", "bell", "A"])
        return f"name {word} {show_block(block)}", ("name", word, block)
    if kind == "rows":
        return f"rows {show_block(block)}", ("new_rows", block)
    if kind == "box":
        box = chance.choice(NAMES)
        number = chance.choice(BEYOND[box] + FITTING[box] * 3)
        return f"box {box} {number}", ("box", box, number)
    if kind == "leave":
        low, behind, word = chance.randrange(size), chance.randrange(size + 2), chance.choice(LEAVES + ["open", "x"])
        return f"leave {low} {behind} {word}", ("leave", low, behind, word)
    if kind == "run":
        return f"run {abs(many)}", ("run", abs(many))
    if kind == "back":
        return f"back {many}", ("back", many)
    if kind == "alike":
        other = chance.choice([block, [deed_of(chance)], block + [deed_of(chance)]])
        return f"alike {show_block(block)} and {show_block(other)}", ("alike", block, other)
    if kind in ("why", "state"):
        return kind, (kind,)
    cells = [chance.randrange(4) for cell in range(chance.choice([1, 5, 9, 9, 12, 60]))]
    if kind == "cells":
        return f"cells {' '.join(map(str, cells))}", ("new_cells", *cells)
    boxes, leaves = tuple(chance.choice(FITTING[box][:3]) for box in NAMES), [chance.choice(LEAVES) for cell in cells]
    at = chance.choice([0, 0, 1, 2, 24])
    return f"load {show_state((at, boxes, cells), leaves)}", ("load", at, boxes, cells, leaves)


class AgainstTheModel(Asked):
    def test_many_rows(self):
        answers = {}
        for seed in range(400):
            chance = random.Random(seed)
            desk, model = Desk(), Model()
            for turn in range(60):
                row, things = row_of(chance, model)
                wanted = model.say(*things)
                try:
                    told = desk.say(row)
                except HaulError as refusal:
                    told = refusal
                key = (things[0], "ok" if isinstance(wanted, str) else type(wanted).__name__)
                answers[key] = answers.get(key, 0) + 1
                if isinstance(wanted, str):
                    self.assertEqual(told, wanted, (seed, row))
                else:
                    self.assertIs(type(told), type(wanted), (seed, row))
                    self.assertEqual(vars(told), vars(wanted), (seed, row))
        wanted = {"name": ("ok", "NoName"), "new_cells": ("ok",), "new_rows": ("ok", "NoStore", "NoName", "NoFlat"),
                  "box": ("ok", "NoFit"), "leave": ("ok", "NoLeave"), "run": ("ok", "NoRows"), "back": ("ok", "NoBack"),
                  "why": ("ok",), "state": ("ok",), "load": ("ok", "NoPlace"), "alike": ("ok", "NotBlind", "NoName")}
        for word, kinds in wanted.items():
            for kind in kinds:
                self.assertGreater(answers.get((word, kind), 0), 5, (word, kind))


if __name__ == "__main__":
    unittest.main()
