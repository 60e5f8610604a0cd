"""Point 28: the desk, its rows, deeds, undo and redo; points 2 and 3 as far as they bear on it."""

import unittest

from rookborders.desk import Desk
from rookborders.errors import NoMove, NoRow, NoStep, NotOne, NoText, RookError, TooMany
from rookborders.handles import least_by_sum, least_by_table, of_surface
from rookborders.moves import corner_put, moved
from rookborders.notes import square_shown, sum_shown, table_shown
from rookborders.squares import lines_of
from rookborders.sums import own_sum
from rookborders.tables import rest, table
from second_look import EIGHT, PLAIN, THREEFOIL, THREE_LINES, TIED, TOLD, few_of_six, moves_within
from walker import all_squares

ASKED = ("show", "lines", "table", "rest", "sum", "handles")
DEEDS = ("square", "columns", "rows", "tip", "swap", "cross", "put", "take", "undo", "redo")
NO_NUMBERS = (
    "", "+1", "01", "00", "-0", "-01", "1234567", "-1234567", "0123456", "1.0", "1.", ".5", "-", "--1", "1-", "one",
    "1e3", "0x1", "1_0", "a", "1a", "a1", "1,2", "+0", "000000", "1/2", "~", "=1", "-+1", "+-1", "(1)", "9999999",
)


def at_desk(square):
    desk = Desk()
    desk.say("square " + square_shown(square))
    return desk


def row_of(move):
    return " ".join(str(part) for part in move)


class DeskTest(unittest.TestCase):
    def refused(self, kind, desk, row):
        before = desk.say("show")
        with self.assertRaises(RookError, msg=row) as taken:
            desk.say(row)
        self.assertIs(type(taken.exception), kind, row)
        self.assertEqual(desk.say("show"), before)

    def told(self, desk, row, due):
        found = desk.say(row)
        self.assertIs(type(found), str)
        self.assertEqual(found, due, row)


class AskedTest(DeskTest):
    def test_at_first(self):
        self.told(Desk(), "show", "xo/ox")
        self.told(Desk(), "lines", "0,1")
        self.told(Desk(), "table", "-1,-2,1 0,0,1")
        self.told(Desk(), "rest", "0,0,1")
        self.told(Desk(), "sum", "1@0")
        self.told(Desk(), "handles", "0 0 0")

    def test_of_instance(self):
        desk = at_desk(THREEFOIL)
        self.told(desk, "lines", "0,3,1,4,2")
        self.told(desk, "rest", "0,-2,1 1,0,1 2,2,1")
        self.told(desk, "sum", "1@-2 -1@0 1@2")
        self.told(desk, "handles", "1 1 1")
        desk = at_desk(TIED)
        self.told(desk, "lines", "0,2 1,3")
        self.told(desk, "sum", "-1@-2 2@0 -1@2")
        self.refused(NotOne, desk, "handles")
        desk = at_desk(((0, 1, 2, 3), (1, 0, 3, 2)))
        self.told(desk, "sum", "0")
        self.told(desk, "rest", "-1,0,1 0,0,1")

    def test_as_the_functions_tell(self):
        for square in all_squares(3) + all_squares(4)[::13] + [TIED, TOLD, THREEFOIL] + few_of_six():
            desk = at_desk(square)
            self.told(desk, "show", square_shown(square))
            self.told(desk, "lines", " ".join(",".join(map(str, line)) for line in lines_of(square)))
            self.told(desk, "table", table_shown(table(square)))
            self.told(desk, "rest", table_shown(rest(square)))
            self.told(desk, "sum", sum_shown(own_sum(square)))
            if len(lines_of(square)) == 1:
                numbers = (least_by_sum(square), least_by_table(square), of_surface(square))
                self.told(desk, "handles", " ".join(map(str, numbers)))
            else:
                self.refused(NotOne, desk, "handles")
            self.told(desk, "show", square_shown(square))

    def test_the_three_handles_in_their_order(self):
        square = next(one for one in all_squares(5)[::7] if len(lines_of(one)) == 1 and of_surface(one) > 0
                      and least_by_table(one) == 0)
        self.told(at_desk(square), "handles", f"0 0 {of_surface(square)}")


class DeedsTest(DeskTest):
    def test_each_kind_of_deed(self):
        for square in (PLAIN, TOLD, TIED, THREEFOIL, EIGHT, corner_put(TIED, 0, 3)):
            desk = at_desk(square)
            for move in moves_within(len(square[0])):
                if any(abs(number) > 999999 for number in move[1:]):
                    self.refused(NoRow, desk, row_of(move))
                    continue
                try:
                    due = moved(square, move)
                except (NoMove, TooMany) as refusal:
                    self.refused(type(refusal), desk, row_of(move))
                    continue
                self.told(desk, row_of(move), square_shown(due))
                self.told(desk, "show", square_shown(due))
                self.told(desk, "undo", square_shown(square))

    def test_squares_put_down(self):
        desk = Desk()
        for square in few_of_six() + [TIED, PLAIN]:
            self.told(desk, "square " + square_shown(square), square_shown(square))
            self.told(desk, "show", square_shown(square))

    def test_six_figures(self):
        for k in (999999, -999999, 100000, -100000, 0, 7, -7):
            self.told(at_desk(THREEFOIL), f"columns {k}", square_shown(moved(THREEFOIL, ("columns", k))))
            self.told(at_desk(THREEFOIL), f"rows {k}", square_shown(moved(THREEFOIL, ("rows", k))))
        for row in ("swap 999999", "cross -999999", "put 999999 0", "put 0 -999999", "take 999999 -999999"):
            self.refused(NoMove, at_desk(THREEFOIL), row)

    def test_due_refusals(self):
        for text in ("", "xo", "xo/xo", "XO/OX", "o", "xo/ox/", "0", "show", "xo/ox~"):
            self.refused(NoText, at_desk(TIED), "square " + text)
        self.refused(NoMove, Desk(), "swap 0")
        self.refused(NoMove, Desk(), "cross 0")
        self.refused(NoMove, Desk(), "take 0 0")
        self.refused(NoMove, Desk(), "put 2 0")
        self.refused(NoMove, Desk(), "put 0 4")
        self.refused(TooMany, at_desk(EIGHT), "put 0 0")
        self.refused(NoMove, at_desk(EIGHT), "put 6 0")
        self.refused(NoStep, Desk(), "undo")
        self.refused(NoStep, Desk(), "redo")
        self.refused(NotOne, at_desk(THREE_LINES), "handles")


class NoRowTest(DeskTest):
    def test_rows_that_are_none(self):
        desks = (Desk(), at_desk(EIGHT), at_desk(THREE_LINES))
        rows = ["", " ", "  ", "   ", "x", "0", "-1", "help", "shows", "sho", "undo!", "square", "~", "!", "show,", "columns:1"]
        for word in ASKED + DEEDS:
            rows += [word.upper(), word.title(), " " + word, word + "  ", "  " + word, word + word, word + "s", word[:-1]]
        for word in ASKED + ("tip", "undo", "redo"):
            rows += [word + " ", word + " 1", word + " " + word, word + " xo/ox", word + " 0 0"]
        for row in rows:
            for desk in desks:
                if row not in ASKED + DEEDS:
                    self.refused(NoRow, desk, row)

    def test_words_too_many_or_too_few(self):
        for row in ("columns", "rows", "swap", "cross", "put", "take", "put 0", "take 0", "square", "columns 1 1",
                    "rows 1 1", "swap 0 0", "cross 0 0", "put 0 0 0", "take 0 0 0", "tip 0", "square xo/ox xo/ox",
                    "square xo/ox 0", "square  xo/ox", "square xo/ox ", "square  ", "columns  1", "columns 1 ",
                    " columns 1", "put  0 0", "put 0  0", "put 0 0 ", "take 0  0", "tip ", " tip", "undo 1", "redo 1"):
            for desk in (Desk(), at_desk(EIGHT), at_desk(TIED)):
                self.refused(NoRow, desk, row)

    def test_words_that_write_no_numbers(self):
        for word in NO_NUMBERS:
            for desk in (at_desk(EIGHT), at_desk(TOLD)):
                for row in ("columns {}", "rows {}", "swap {}", "cross {}", "put {} 0", "put 0 {}", "put 99 {}",
                            "take {} 0", "take 0 {}", "take 99 {}"):
                    self.refused(NoRow, desk, row.format(word))

    def test_every_sign(self):
        signs = [chr(code) for code in range(32, 127) if chr(code) != "%"]
        for sign in signs:
            for row in (sign, "show" + sign, sign + "show", "columns 1" + sign, "columns " + sign):
                if not row[8:].isdigit():
                    self.refused(NoRow, Desk(), row)


class UndoTest(DeskTest):
    def test_one_behind_the_other_to_the_first_and_back(self):
        desk, seen = Desk(), ["xo/ox"]
        rows = ["columns 1", "put 0 2", "tip", "put 1 1", "square " + square_shown(TOLD), "swap 1", "rows -3", "tip"]
        for row in rows:
            seen.append(desk.say(row))
        for _ in range(3):
            for due in seen[-2::-1]:
                self.told(desk, "undo", due)
                self.told(desk, "show", due)
            self.refused(NoStep, desk, "undo")
            self.refused(NoStep, desk, "undo")
            for due in seen[1:]:
                self.told(desk, "redo", due)
                self.told(desk, "show", due)
            self.refused(NoStep, desk, "redo")
            self.refused(NoStep, desk, "redo")

    def test_a_deed_behind_an_undo(self):
        desk = Desk()
        one = desk.say("put 0 0")
        desk.say("put 0 1")
        self.told(desk, "undo", one)
        two = desk.say("rows 1")
        self.refused(NoStep, desk, "redo")
        self.told(desk, "undo", one)
        self.told(desk, "redo", two)
        self.told(desk, "undo", one)
        self.told(desk, "undo", "xo/ox")
        self.told(desk, "redo", one)
        self.told(desk, "redo", two)
        self.refused(NoStep, desk, "redo")

    def test_a_deed_that_leaves_the_square_is_one(self):
        for row in ("columns 0", "rows 2", "columns -4", "square xo/ox"):
            desk = Desk()
            self.told(desk, row, "xo/ox")
            self.told(desk, "undo", "xo/ox")
            self.refused(NoStep, desk, "undo")
            self.told(desk, "redo", "xo/ox")
            self.refused(NoStep, desk, "redo")
            other = desk.say("columns 1")
            self.told(desk, "undo", "xo/ox")
            self.told(desk, row, "xo/ox")
            self.refused(NoStep, desk, "redo")
            self.assertNotEqual(other, "xo/ox")
            self.told(desk, "undo", "xo/ox")
            self.told(desk, "undo", "xo/ox")
            self.refused(NoStep, desk, "undo")

    def test_what_is_refused_or_asked_changes_nothing(self):
        rows = ["swap 0", "cross 9", "put 9 9", "take 0 7", "square xo", "square ", "", "tip 1", "columns x", "handles"]
        desk = at_desk(TIED)
        first = square_shown(TIED)
        last = desk.say("put 0 0")
        self.told(desk, "undo", first)
        for row in rows:
            with self.assertRaises(RookError):
                desk.say(row)
            self.told(desk, "show", first)
            self.told(desk, "redo", last)
            self.refused(NoStep, desk, "redo")
            self.told(desk, "undo", first)
        for row in ("show", "lines", "table", "rest", "sum"):
            desk.say(row)
            self.told(desk, "redo", last)
            self.told(desk, "undo", first)
        self.told(desk, "undo", "xo/ox")
        self.refused(NoStep, desk, "undo")
        self.told(desk, "redo", first)
        self.told(desk, "redo", last)

    def test_refused_as_too_many_changes_nothing(self):
        desk = at_desk(EIGHT)
        turned = desk.say("rows 1")
        self.told(desk, "undo", square_shown(EIGHT))
        self.refused(TooMany, desk, "put 0 0")
        self.told(desk, "redo", turned)

    def test_refused_undo_keeps_what_may_be_done_again(self):
        desk = Desk()
        one = desk.say("columns 1")
        self.told(desk, "undo", "xo/ox")
        self.refused(NoStep, desk, "undo")
        self.told(desk, "redo", one)
        self.refused(NoStep, desk, "redo")
        self.told(desk, "undo", "xo/ox")

    def test_a_hundred_deeds(self):
        desk, seen = at_desk(THREEFOIL), [square_shown(THREEFOIL)]
        for k in range(100):
            seen.append(desk.say(("columns 1", "rows -2", "tip", "columns 7")[k % 4]))
        for due in seen[-2::-1]:
            self.told(desk, "undo", due)
        self.told(desk, "undo", "xo/ox")
        self.refused(NoStep, desk, "undo")
        for due in seen:
            self.told(desk, "redo", due)
        self.refused(NoStep, desk, "redo")

    def test_two_desks(self):
        one, other = Desk(), Desk()
        one.say("put 0 0")
        self.told(other, "show", "xo/ox")
        self.refused(NoStep, other, "undo")
        turned = other.say("columns 1")
        self.told(one, "undo", "xo/ox")
        self.refused(NoStep, other, "redo")
        self.told(other, "show", turned)
        self.refused(NoStep, one, "undo")
        self.told(Desk(), "show", "xo/ox")


if __name__ == "__main__":
    unittest.main()
