"""Point 27: squares written and read, sums and tables written; point 2 as far as it bears on them."""

import copy
import unittest

from rookborders.errors import NoText, RookError
from rookborders.notes import square_read, square_shown, sum_shown, table_shown
from rookborders.squares import is_square
from rookborders.sums import own_sum, signed_sum
from rookborders.tables import rest, table
from second_look import EIGHT, PLAIN, THREEFOIL, THREE_LINES, TIED, few_of_six
from walker import all_squares, squares_up_to


def many_squares():
    return squares_up_to(3) + all_squares(4)[::3] + all_squares(5)[::70] + few_of_six() + [TIED, THREEFOIL]


def shown_looked(square):
    """The square written by laying its marks onto a board of empty cells."""
    size = len(square[0])
    board = [["."] * size for _ in range(size)]
    for column in range(size):
        board[size - 1 - square[0][column]][column] = "o"
        board[size - 1 - square[1][column]][column] = "x"
    return "/".join("".join(row) for row in board)


class NotesTest(unittest.TestCase):
    def refused(self, thing):
        kept = copy.deepcopy(thing)
        with self.assertRaises(RookError, msg=repr(thing)[:200]) as taken:
            square_read(thing)
        self.assertIs(type(taken.exception), NoText)
        self.assertEqual(thing, kept)


class SquareTest(NotesTest):
    def test_of_instance(self):
        self.assertEqual(square_shown(PLAIN), "xo/ox")
        self.assertEqual(square_shown(((1, 0), (0, 1))), "ox/xo")
        self.assertEqual(square_shown(((0, 1, 2), (1, 2, 0))), ".xo/xo./o.x")
        self.assertEqual(square_shown(((2, 0, 1), (0, 1, 2))), "o.x/.xo/xo.")
        self.assertEqual(square_shown(TIED), ".x.o/x.o./.o.x/o.x.")
        self.assertEqual(square_read("xo/ox"), PLAIN)
        self.assertEqual(square_read(".xo/xo./o.x"), ((0, 1, 2), (1, 2, 0)))
        self.assertEqual(square_read("o.x/.xo/xo."), ((2, 0, 1), (0, 1, 2)))

    def test_written_and_read_again(self):
        for square in many_squares():
            text = square_shown(square)
            self.assertIs(type(text), str)
            self.assertEqual(text, shown_looked(square))
            found = square_read(text)
            self.assertIs(is_square(found), True)
            self.assertEqual(found, square)

    def test_one_sign_otherwise_one_more_one_less(self):
        for square in (PLAIN, ((0, 1, 2), (1, 2, 0)), TIED, THREEFOIL, EIGHT):
            text = square_shown(square)
            for at in range(len(text) + 1):
                self.refused(text[:at] + text[at + 1:] if at < len(text) else text[1:])
                for sign in "ox./ OX0,\n-":
                    self.refused(text[:at] + sign + text[at:])
                    if at < len(text) and text[at] != sign:
                        self.refused(text[:at] + sign + text[at + 1:])

    def test_rows_more_less_and_of_unlike_length(self):
        for square in (PLAIN, TIED, THREEFOIL, THREE_LINES):
            rows = square_shown(square).split("/")
            size = len(rows)
            self.refused("/".join(rows[1:]))
            self.refused("/".join(rows[:-1]))
            self.refused("/".join(rows + rows[:1]))
            self.refused("/".join(rows + ["." * size]))
            self.refused("/".join(["." * size] + rows))
            self.refused("/".join(rows + [""]))
            self.refused("/".join([""] + rows))
            self.refused("/".join([row + "." for row in rows]))
            self.refused("/".join(["." + row for row in rows]))
            self.refused("/".join([rows[0] + rows[1]] + rows[2:]))
            self.refused("/".join([rows[0] + "."] + rows[1:]))
            self.refused("/".join([rows[0], rows[0]] + rows[2:]))
            self.refused("//".join(rows))
            self.refused("\\".join(rows))
            self.refused("\n".join(rows))
            self.refused(" ".join(rows))
            self.refused("".join(rows))
            for text in ("/".join(rows), "/".join(rows).upper()):
                self.refused(text + " ")
                self.refused(" " + text)
                self.refused(text + "\n")
            self.refused("/".join(rows).upper())
            self.refused("/".join(rows).replace("x", " "))
            self.refused("/".join(rows).replace("o", "0"))

    def test_columns_with_marks_too_many(self):
        for text in ("xo/xo", "ox/ox", "xo./xo./xo.", "xo./ox./.ox", "x.o/xo./.xo", "o.x/o.x/.ox", "xo./ox./xo."):
            self.refused(text)
        self.refused("oo/xx")
        self.refused("../..")
        self.refused("xx/oo")

    def test_of_one_and_of_seven(self):
        self.refused("")
        self.refused("o")
        self.refused("x")
        self.refused(".")
        self.refused("/")
        self.refused("ox")
        seven = (tuple(range(7)), tuple(range(1, 7)) + (0,))
        self.refused(shown_looked(seven))
        self.refused(shown_looked((tuple(range(8)), tuple(range(1, 8)) + (0,))))
        self.refused(shown_looked((tuple(range(19)), tuple(range(1, 19)) + (0,))))

    def test_things_that_are_no_texts(self):
        strange = (0, 1, -5, 999999999999, True, False, None, [], (), ["xo/ox"], ("xo/ox",), ["xo", "ox"], PLAIN, TIED)
        for thing in strange + (list("xo/ox"), tuple("xo/ox"), [[[[[[]]]]]], "x" * 400, "/" * 400, "xo/ox" * 80):
            self.refused(thing)


class SumAndTableTest(NotesTest):
    def test_sums(self):
        self.assertEqual(sum_shown([]), "0")
        self.assertEqual(sum_shown([(-2, 3)]), "3@-2")
        self.assertEqual(sum_shown([(0, 1)]), "1@0")
        self.assertEqual(sum_shown([(-60, -12), (0, 345), (7, -1), (60, 999999999999)]), "-12@-60 345@0 -1@7 999999999999@60")
        self.assertEqual(sum_shown(own_sum(EIGHT)), "-1@-2 3@0 -1@2")
        self.assertEqual(sum_shown(signed_sum(PLAIN)), "-1@-2 1@0")
        self.assertIs(type(sum_shown([(0, 1)])), str)

    def test_tables(self):
        self.assertEqual(table_shown([]), "none")
        self.assertEqual(table_shown([(0, 0, 1)]), "0,0,1")
        self.assertEqual(table_shown([(-1, -2, 1), (0, 0, 1)]), "-1,-2,1 0,0,1")
        self.assertEqual(table_shown([(123, -4567, 89), (-10, 20, -30)]), "123,-4567,89 -10,20,-30")
        self.assertEqual(table_shown([(1, 2, 0)] * 10), " ".join(["1,2,0"] * 10))
        self.assertEqual(table_shown([(3, 2, 1), (1, 2, 3)]), "3,2,1 1,2,3")
        self.assertEqual(table_shown(table(PLAIN)), "-1,-2,1 0,0,1")
        self.assertEqual(table_shown(rest(THREEFOIL)), "0,-2,1 1,0,1 2,2,1")

    def test_handed_lists_stay(self):
        for deed, handed in ((sum_shown, [(-2, 3), (0, 1)]), (table_shown, [(1, 2, 3), (0, 0, 1)]), (sum_shown, [])):
            kept = list(handed)
            first = deed(handed)
            self.assertEqual(handed, kept)
            handed.append((9, 9, 9)[:len(kept[0])] if kept else (4, 4))
            self.assertNotEqual(deed(handed), first)
            self.assertEqual(deed(kept), first)


if __name__ == "__main__":
    unittest.main()
