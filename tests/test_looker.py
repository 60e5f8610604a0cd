"""Point 26: papers that are let by, and papers refused by the first clause that fails; point 2 as far as it bears."""

import copy
import unittest

from rookborders.borders import added, border
from rookborders.errors import NoPaper, RookError
from rookborders.exchanges import led, tied
from rookborders.looker import look
from rookborders.moves import columns_changed, moved
from rookborders.stands import all_stands, grade, lean
from rookborders.tables import taken_apart
from second_look import EIGHT, PLAIN, THREEFOIL, THREE_LINES, TIED, TOLD, exchange_looked
from walker import all_squares, squares_up_to

STRANGE = (0, 1, -7, 999999999999, True, False, None, "", "moves", "x" * 400, [], (), [[]], ((),), [None], (True,))
SIXES = (EIGHT, THREE_LINES)


def home(square, stand):
    return grade(square, stand), lean(square, stand)


def class_paper(square, at=0):
    cycle, row = taken_apart(square)[0][at]
    return ("class", square, cycle, row)


def apart_paper(square):
    classes, borders = taken_apart(square)
    return ("apart", square, classes, borders)


def exchange_paper(square, c):
    stands = all_stands(len(square[0]))
    there = [led(square, c, [stand]) for stand in stands]
    return ("exchange", square, c, there, [tied(square, c, [stand]) for stand in stands])


def moves_paper(one, moves):
    other = one
    for move in moves:
        other = moved(other, move)
    return ("moves", one, moves, other)


def changed(thing, path, value):
    """The thing with what lies at a path of places given another value."""
    if not path:
        return value
    parts = list(thing)
    parts[path[0]] = changed(parts[path[0]], path[1:], value)
    return tuple(parts) if isinstance(thing, tuple) else parts


def other_way(thing):
    """A list for a tuple, a tuple for a list."""
    return list(thing) if isinstance(thing, tuple) else tuple(thing)


class LookerTest(unittest.TestCase):
    def let_by(self, paper):
        kept = copy.deepcopy(paper)
        self.assertIs(look(paper), True)
        self.assertEqual(paper, kept)

    def fails(self, at, paper):
        kept = copy.deepcopy(paper)
        with self.assertRaises(RookError, msg=str(paper)[:300]) as taken:
            look(paper)
        self.assertIs(type(taken.exception), NoPaper)
        self.assertEqual(taken.exception.at, at, str(paper)[:300])
        self.assertIs(type(taken.exception.at), int)
        self.assertEqual(paper, kept)

    def fails_with(self, at, paper, path, *values):
        for value in values:
            self.fails(at, changed(paper, path, value))


class FirstClauseTest(LookerTest):
    def test_things_that_are_no_papers(self):
        for thing in STRANGE:
            self.fails(1, thing)
            self.fails(1, (thing,))
            if thing != "moves":
                self.fails(1, (thing, PLAIN, [], PLAIN))
        self.fails(1, [((((((),),),),),)])

    def test_tuples_with_one_thing_more_or_less(self):
        for paper in all_kinds():
            self.fails(1, paper[:-1])
            self.fails(1, paper + ([],))
            self.fails(1, paper[:1])
            self.fails(1, paper[1:])

    def test_a_list_and_other_texts(self):
        for paper in all_kinds():
            self.fails(1, list(paper))
            for text in ("Moves", "move", "moves ", " class", "classes", "CLASS", "part", "exchanges", "", None, 0, True):
                self.fails(1, (text,) + paper[1:])
            self.fails(1, ([paper[0]],) + paper[1:])
            self.fails(1, ((paper[0],),) + paper[1:])
            self.fails(1, (paper,))
            self.fails(1, ([[]],) + paper[1:])

    def test_a_text_with_the_things_of_another_kind(self):
        exchange = exchange_paper(TOLD, 1)
        for text in ("moves", "class", "apart"):
            self.fails(1, (text,) + exchange[1:])
        self.fails(1, ("exchange",) + class_paper(TOLD)[1:])
        self.fails(3, ("class",) + moves_paper(PLAIN, [])[1:])
        self.fails(3, ("apart",) + moves_paper(PLAIN, [])[1:])
        self.fails(2, ("moves",) + class_paper(TOLD)[1:])


def all_kinds():
    moves = moves_paper(TIED, [("columns", 1), ("put", 0, 2), ("tip",)])
    return [moves, class_paper(THREEFOIL), apart_paper(TIED), exchange_paper(TOLD, 1)]


class MovesPaperTest(LookerTest):
    def setUp(self):
        # All seven kinds, from four columns to six and back to five.
        self.moves = [("columns", 5), ("rows", -1), ("tip",), ("put", 1, 3), ("swap", 0), ("swap", 0), ("cross", 0)]
        self.moves += [("cross", 0), ("put", 0, 0), ("take", 0, 0)]
        self.paper = moves_paper(TIED, self.moves)

    def test_let_by(self):
        self.let_by(self.paper)
        self.let_by(moves_paper(PLAIN, []))
        self.let_by(moves_paper(EIGHT, []))
        self.let_by(moves_paper(EIGHT, [("columns", -999999999999), ("tip",), ("rows", 4)]))
        self.let_by(moves_paper(THREEFOIL, [("put", 4, 1), ("take", 4, THREEFOIL[1][4])]))
        self.let_by(moves_paper(TOLD, [("swap", 1), ("swap", 1), ("columns", 1), ("tip",), ("cross", 2)][:3]))
        tipped_told = moved(TOLD, ("tip",))
        self.let_by(moves_paper(tipped_told, [("cross", 1), ("put", 0, 0), ("put", 3, 2)]))

    def test_thirty_moves_and_thirty_one(self):
        self.let_by(moves_paper(THREEFOIL, [("tip",)] * 30))
        self.let_by(moves_paper(THREEFOIL, [("rows", 1)] * 29))
        self.fails(3, moves_paper(THREEFOIL, [("tip",)] * 31))
        self.fails(3, moves_paper(THREEFOIL, [("rows", 1)] * 125))

    def test_clause_two(self):
        for thing in STRANGE:
            self.fails_with(2, self.paper, (1,), thing)
            self.fails_with(2, self.paper, (3,), thing)
        for at in (1, 3):
            square = self.paper[at]
            self.fails_with(2, self.paper, (at,), list(square), square[:1], square + square[:1])
            self.fails_with(2, self.paper, (at, 0), list(square[0]), square[0][:-1], square[1])
            self.fails_with(2, self.paper, (at, 0, 0), True, False, None, "0", 7, -1)
            self.fails_with(2, self.paper, (at,), ((0,), (0,)), (tuple(range(7)), tuple(range(1, 7)) + (0,)))
        # Truths in the place of whole numbers.
        self.fails(2, ("moves", ((False, True), (True, False)), [], PLAIN))
        self.fails(2, ("moves", PLAIN, [], ((0, True), (1, 0))))

    def test_clause_three(self):
        for thing in STRANGE:
            if thing != []:
                self.fails_with(3, self.paper, (2,), thing)
            self.fails_with(3, self.paper, (2, 1), thing)
            if not isinstance(thing, int) or isinstance(thing, bool):
                self.fails_with(3, self.paper, (2, 0, 1), thing)
            if not isinstance(thing, str):
                self.fails_with(3, self.paper, (2, 0, 0), thing)
        self.fails_with(3, self.paper, (2,), tuple(self.moves))
        self.fails_with(3, self.paper, (2, 0), ["columns", 5], ("columns", 5, 1, 1), ("put", 0, 0, 0), (5, 5), (5,))
        self.fails_with(3, self.paper, (2, 0), ("columns", True), ("put", 0, False), ("put", None, 0), ("tip", "tip"))
        self.fails_with(3, self.paper, (2, 0), (("columns", 5),), ("columns", (5,)), (("columns",), 5), "columns")

    def test_clause_four(self):
        self.fails_with(4, self.paper, (2, 0), ("columns",), ("columns", 1, 1), ("rows",), ("rows", 0, 0), ("tip", 0))
        self.fails_with(4, self.paper, (2, 0), ("tip", 0, 0), ("swap",), ("swap", 0, 0), ("cross",), ("cross", 1, 2))
        self.fails_with(4, self.paper, (2, 0), ("put",), ("put", 0), ("take",), ("take", 0), ("", 1), ("",), ("x", 1))
        self.fails_with(4, self.paper, (2, 0), ("Columns", 1), ("column", 1), ("tip ",), ("Tip",), ("undo",), ("put", 0))
        self.fails_with(4, self.paper, (2, 0), ("swap", -1), ("swap", 3), ("swap", 999999999999), ("cross", -1))
        self.fails_with(4, self.paper, (2, 0), ("put", 4, 0), ("put", -1, 0), ("put", 0, 4), ("put", 0, -1))
        self.fails_with(4, self.paper, (2, 0), ("take", 3, 0), ("take", 0, 3), ("take", -1, -1))
        # A square of six has no room for a corner; one of the others among the refused moves.
        self.fails(4, ("moves", EIGHT, [("put", 0, 0)], EIGHT))
        self.fails(4, ("moves", TIED, [("put", 0, 0)] * 3, TIED))
        self.fails(4, ("moves", TIED, [("swap", 0)], TIED))
        # The last of them alone, and one that fails though the moves behind it end at the other square.
        self.fails(4, changed(self.paper, (2,), self.moves + [("tip", 1)]))
        self.fails(4, ("moves", PLAIN, [("swap", 0), ("tip",), ("tip",)], PLAIN))

    def test_clause_five(self):
        self.fails_with(5, self.paper, (2,), [], self.moves[:-1], self.moves + [("columns", 1)])
        self.fails_with(5, self.paper, (3,), TIED, THREEFOIL, EIGHT, PLAIN)
        self.fails(5, ("moves", PLAIN, [], ((1, 0), (0, 1))))
        self.fails(5, ("moves", PLAIN, [("columns", 1)], PLAIN))
        self.let_by(("moves", PLAIN, [("columns", 1)], ((1, 0), (0, 1))))

    def test_the_first_of_two(self):
        self.fails(2, ("moves", None, None, None))
        self.fails(2, ("moves", PLAIN, None, None))
        self.fails(2, ("moves", PLAIN, [("x",)], None))
        self.fails(3, ("moves", PLAIN, [("x",), ["tip"]], TIED))
        self.fails(3, ("moves", PLAIN, [("swap", 0)] * 31, TIED))
        self.fails(4, ("moves", PLAIN, [("swap", 0)], TIED))


class ClassPaperTest(LookerTest):
    def setUp(self):
        self.paper = class_paper(THREEFOIL, 3)

    def test_let_by(self):
        for square in squares_up_to(3) + all_squares(4)[::9] + [TIED, TOLD, THREEFOIL]:
            for cycle, row in taken_apart(square)[0]:
                self.let_by(("class", square, cycle, row))

    def test_another_cycle_of_the_class(self):
        found = 0
        edges = [border(TIED, [stand]) for stand in all_stands(4)]
        for cycle, row in taken_apart(TIED)[0]:
            for edge in edges:
                if edge and home(TIED, edge[0]) == home(TIED, cycle[0]):
                    self.let_by(("class", TIED, added(cycle, edge), row))
                    found += 1
        self.assertGreater(found, 0)

    def test_clause_two(self):
        for thing in STRANGE + (list(THREEFOIL), THREEFOIL[:1], changed(THREEFOIL, (0, 0), False)):
            self.fails_with(2, self.paper, (1,), thing)
        for six in SIXES:
            cycle, row = taken_apart(six)[0][0]
            self.fails(2, ("class", six, cycle, row))
            self.fails(2, ("class", six, [], []))

    def test_clause_three(self):
        strange = (0, True, None, "", "x", (), ((),), [None], [[]], [()], [(0, 1)], [0], (0, 1, 2, 3))
        for at in (2, 3):
            crowd = self.paper[at]
            self.fails_with(3, self.paper, (at,), (0, 1, 2, 3, 4), *strange)
            self.fails_with(3, self.paper, (at,), tuple(crowd), crowd + crowd[:1], crowd[:1] + crowd)
            self.fails_with(3, self.paper, (at,), crowd + [None], [list(stand) for stand in crowd])
            self.fails_with(3, self.paper, (at,), crowd + [(0, 1, 2, 3)], crowd + [(5, 0, 1, 2, 3)])
            self.fails_with(3, self.paper, (at, 0), *strange)
            self.fails_with(3, self.paper, (at, 0), list(crowd[0]), (0, 1, 2, 3, 3), (0, 1, 2, 3, 4, 5), (1, 2, 3, 4, 5))
            truth = tuple(bool(height) if height < 2 else height for height in crowd[0])
            self.fails_with(3, self.paper, (at, 0), truth)
            stands = all_stands(5)
            self.fails_with(3, self.paper, (at,), [stands[1], stands[0]], stands[::-1], stands[:2] + stands[1:3])

    def test_clause_four(self):
        cycle, row = self.paper[2:]
        own = home(THREEFOIL, cycle[0])
        others = [stand for stand in all_stands(5) if home(THREEFOIL, stand) != own]
        for stand in (others[0], others[-1], others[len(others) // 2]):
            self.fails_with(4, self.paper, (2,), sorted(cycle + [stand]), [stand])
            self.fails_with(4, self.paper, (3,), sorted(row + [stand]), [stand])
        self.fails_with(4, self.paper, (2,), all_stands(5))
        # One of the two numbers alone unlike.
        lean_alone = [stand for stand in others if home(THREEFOIL, stand)[0] == own[0]]
        grade_alone = [stand for stand in others if home(THREEFOIL, stand)[1] == own[1]]
        for stand in lean_alone[:1] + grade_alone[:1]:
            self.fails_with(4, self.paper, (2,), sorted(cycle + [stand]))
        self.assertTrue(grade_alone)

    def edged(self, square, wanted):
        """A stand of that home with a border that isn't empty, None where there is none."""
        found = [stand for stand in all_stands(5) if home(square, stand) == wanted and border(square, [stand])]
        return found[0] if found else None

    def test_clause_five(self):
        seen = 0
        for cycle, row in taken_apart(THREEFOIL)[0]:
            stand = self.edged(THREEFOIL, home(THREEFOIL, cycle[0]))
            if stand is not None:
                self.fails(5, ("class", THREEFOIL, added(cycle, [stand]), row))
                self.fails(5, ("class", THREEFOIL, [stand], []))
                seen += 1
        self.assertGreater(seen, 0)

    def test_clause_six(self):
        seen = 0
        ends = sorted({end for stand in all_stands(5) for end in border(THREEFOIL, [stand])})
        for cycle, row in taken_apart(THREEFOIL)[0][::5]:
            same = [end for end in ends if home(THREEFOIL, end) == home(THREEFOIL, cycle[0])]
            for end in same[:2] + same[-2:]:
                self.fails(6, ("class", THREEFOIL, [], added(row, [end])))
                self.fails(6, ("class", THREEFOIL, cycle, added(row, [end])))
                seen += 1
        self.assertGreater(seen, 1)

    def test_clause_seven(self):
        cycle, row = self.paper[2:]
        self.fails_with(7, self.paper, (2,), [])
        self.fails_with(7, self.paper, (3,), [])
        self.fails(7, ("class", THREEFOIL, [], []))
        self.fails(7, ("class", PLAIN, [], [(0, 1)]))
        self.fails(7, ("class", PLAIN, [(0, 1)], []))
        by_home = {}
        for other, other_row in taken_apart(THREEFOIL)[0]:
            by_home.setdefault(home(THREEFOIL, other[0]), []).append((other, other_row))
        pairs = [pairs for pairs in by_home.values() if len(pairs) > 1][0]
        (one, one_row), (two, two_row) = pairs[:2]
        self.fails(7, ("class", THREEFOIL, one, two_row))
        self.fails(7, ("class", THREEFOIL, two, one_row))
        self.let_by(("class", THREEFOIL, added(one, two), two_row))
        self.fails(7, ("class", THREEFOIL, added(one, two), added(one_row, two_row)))
        self.let_by(("class", THREEFOIL, one, added(one_row, two_row)))

    def test_a_border_is_no_class(self):
        for crowd, lead in taken_apart(THREEFOIL)[1]:
            edge = border(THREEFOIL, crowd)
            for cycle, row in taken_apart(THREEFOIL)[0]:
                if home(THREEFOIL, row[0]) == home(THREEFOIL, edge[0]):
                    self.fails(7, ("class", THREEFOIL, edge, row))

    def test_the_first_of_two(self):
        self.fails(2, ("class", None, None, None))
        self.fails(2, ("class", EIGHT, [], None))
        self.fails(3, ("class", PLAIN, [(0, 1), (1, 0)], [None]))
        self.fails(4, ("class", PLAIN, [(0, 1), (1, 0)], []))
        self.fails(4, ("class", PLAIN, [(0, 1)], [(1, 0)]))
        stand = next(stand for stand in all_stands(4) if border(TOLD, [stand]))
        others = [one for one in all_stands(4) if home(TOLD, one) != home(TOLD, stand)]
        self.fails(4, ("class", TOLD, [stand], others[:1]))
        edge = border(TOLD, [stand])
        self.fails(5, ("class", TOLD, [stand], []))
        self.fails(6, ("class", TOLD, [], edge[:1]))


class ApartPaperTest(LookerTest):
    def setUp(self):
        self.paper = apart_paper(TIED)

    def test_let_by(self):
        for square in squares_up_to(3) + all_squares(4)[::7] + [TIED, TOLD, THREEFOIL] + all_squares(5)[::1700]:
            paper = apart_paper(square)
            self.let_by(paper)
            self.let_by(paper[:2] + (paper[2][::-1], paper[3][::-1]))

    def test_clause_two(self):
        for thing in STRANGE + (list(TIED), TIED[:1], changed(TIED, (0, 0), False)):
            self.fails_with(2, self.paper, (1,), thing)
        for six in SIXES:
            self.fails(2, ("apart", six, [], []))

    def test_clause_three_of_classes(self):
        strange = (0, True, None, "", "x", (), [None], [[]], [()], [0], ["x"])
        self.fails_with(3, self.paper, (2,), *strange)
        self.fails_with(3, self.paper, (2,), tuple(self.paper[2]), self.paper[2] + [None])
        self.fails_with(3, self.paper, (2, 1), *strange)
        pair = self.paper[2][1]
        self.fails_with(3, self.paper, (2, 1), list(pair), pair[:1], pair + pair[:1], (pair[0], pair[1][0]), pair[0])
        for place in (0, 1):
            crowd = pair[place]
            self.fails_with(3, self.paper, (2, 1, place), 0, True, None, "", (), [None], [[]], [()], tuple(crowd))
            self.fails_with(3, self.paper, (2, 1, place), crowd * 2, all_stands(4)[::-1], all_stands(3), crowd[0])
            self.fails_with(3, self.paper, (2, 1, place, 0), list(crowd[0]), (0, 1, 2, 2), (False, True, 2, 3), None)

    def test_clause_three_of_borders(self):
        strange = (0, True, None, "", "x", (), [None], [[]], [()], [0], ["x"])
        self.fails_with(3, self.paper, (3,), *strange)
        self.fails_with(3, self.paper, (3,), tuple(self.paper[3]), self.paper[3] + [None])
        self.fails_with(3, self.paper, (3, 1), *strange)
        pair = self.paper[3][1]
        self.fails_with(3, self.paper, (3, 1), list(pair), pair[:1], pair + pair[:1], (pair[0], [pair[1]]), pair[::-1])
        self.fails_with(3, self.paper, (3, 1, 0), 0, True, None, (), [None], [()], tuple(pair[0]), pair[0] * 2, pair[1])
        self.fails_with(3, self.paper, (3, 1, 1), 0, True, None, (), [], list(pair[1]), (0, 1, 2), (0, 1, 2, 2), pair[0])
        self.fails_with(3, self.paper, (3, 1, 1), (False, True, 2, 3), (0, 1, 2, 3, 4), "0123")

    def test_clause_four(self):
        cycle, row = self.paper[2][1]
        other = next(one for one in all_stands(4) if home(TIED, one) != home(TIED, cycle[0]))
        self.fails_with(4, self.paper, (2, 1, 0), sorted(cycle + [other]), [other])
        self.fails_with(4, self.paper, (2, 1, 1), sorted(row + [other]), [other])
        self.fails_with(4, self.paper, (2, -1), (all_stands(4), []))

    def test_clause_five(self):
        stand = next(one for one in all_stands(4) if border(TIED, [one]))
        self.fails_with(5, self.paper, (2, 0), ([stand], []))
        self.fails_with(5, self.paper, (2, -1), ([stand], [stand]))

    def test_clause_six(self):
        edge = border(TIED, next([one] for one in all_stands(4) if border(TIED, [one])))
        self.fails_with(6, self.paper, (2, 0), ([], edge[:1]))
        self.fails_with(6, self.paper, (2, -1), ([], edge[-1:]))

    def test_clause_seven(self):
        classes = self.paper[2]
        self.fails_with(7, self.paper, (2, 0), ([], []), ([], classes[0][1]), (classes[0][0], []))
        self.fails_with(7, self.paper, (2,), classes + classes[:1], classes[:1] + classes[:-1], classes[:1] * 2)
        by_home = {}
        for at, (cycle, row) in enumerate(classes):
            by_home.setdefault(home(TIED, cycle[0]), []).append(at)
        one, two = next(places for places in by_home.values() if len(places) > 1)[:2]
        both = added(classes[one][0], classes[two][0])
        rows = added(classes[one][1], classes[two][1])
        # Each class still holds by itself, but one row meets the other class's cycle.
        self.fails_with(7, self.paper, (2, one, 0), both)
        self.fails_with(7, self.paper, (2, one, 1), rows)
        changed_both = changed(changed(self.paper, (2, one, 0), both), (2, two, 1), rows)
        self.let_by(changed_both)

    def test_clause_eight(self):
        classes, borders = self.paper[2:]
        crowd, lead = borders[0]
        self.fails_with(8, self.paper, (3, 0), ([], lead))
        self.fails_with(8, self.paper, (3, 0, 1), borders[1][1], crowd[0])
        self.fails_with(8, self.paper, (3, 1), borders[0])
        self.fails_with(8, self.paper, (3,), borders + borders[:1], borders[:1] * 2)
        # A cycle in the place of a crowd: its border is empty.
        self.fails_with(8, self.paper, (3, 0, 0), classes[0][0])
        # A crowd of two homes that has the same border.
        other = next(cycle for cycle, row in classes if home(TIED, cycle[0]) != home(TIED, crowd[0]))
        self.assertEqual(border(TIED, added(crowd, other)), border(TIED, crowd))
        self.fails_with(8, self.paper, (3, 0, 0), added(crowd, other))
        same = [cycle for cycle, row in classes if home(TIED, cycle[0]) == home(TIED, crowd[0])]
        for cycle in same:
            self.let_by(changed(self.paper, (3, 0, 0), added(crowd, cycle)))

    def test_the_lead_is_the_greatest(self):
        seen = 0
        for square in (TIED, THREEFOIL, TOLD):
            paper = apart_paper(square)
            for at, (crowd, lead) in enumerate(paper[3]):
                for stand in border(square, crowd)[:-1]:
                    self.fails_with(8, paper, (3, at, 1), stand)
                    seen += 1
        self.assertGreater(seen, 0)

    def test_clause_nine(self):
        classes, borders = self.paper[2:]
        self.fails_with(9, self.paper, (2,), [], classes[1:], classes[:-1])
        self.fails_with(9, self.paper, (3,), [], borders[1:], borders[:-1])
        self.fails(9, ("apart", TIED, [], []))
        self.fails(9, ("apart", THREEFOIL, [], []))

    def test_the_first_of_two(self):
        classes, borders = self.paper[2:]
        stand = next(one for one in all_stands(4) if border(TIED, [one]))
        other = next(one for one in all_stands(4) if home(TIED, one) != home(TIED, stand))
        edge = border(TIED, [stand])
        four, five, six, seven = ([stand], [other]), ([stand], []), ([], edge[:1]), ([], [])
        self.fails(2, ("apart", EIGHT, None, None))
        self.fails(3, ("apart", TIED, [four], [None]))
        self.fails(4, ("apart", TIED, [seven, six, five, four], [([], stand)]))
        self.fails(5, ("apart", TIED, [seven, six, five], [([], stand)]))
        self.fails(6, ("apart", TIED, [seven, six], [([], stand)]))
        self.fails(7, ("apart", TIED, [seven], [([], stand)]))
        self.fails(8, ("apart", TIED, [], [([], stand)]))
        self.fails(8, ("apart", TIED, classes, borders[:1] * 125))


class ExchangePaperTest(LookerTest):
    def setUp(self):
        self.paper = exchange_paper(TOLD, 1)

    def test_let_by(self):
        self.let_by(self.paper)
        self.let_by(exchange_paper(columns_changed(TOLD, 1), 1))
        for square in all_squares(4)[::10] + all_squares(5)[::900] + [THREEFOIL]:
            for c in range(len(square[0]) - 1):
                if exchange_looked(square, c):
                    self.let_by(exchange_paper(square, c))

    def test_clause_two(self):
        for thing in STRANGE + (list(TOLD), TOLD[:1], changed(TOLD, (1, 0), False)):
            self.fails_with(2, self.paper, (1,), thing)
        six = ((0, 2, 1, 3, 4, 5), (1, 3, 0, 4, 5, 2))
        self.assertTrue(exchange_looked(six, 0))
        self.fails(2, ("exchange", six, 0, [], []))

    def test_clause_three(self):
        self.fails_with(3, self.paper, (2,), True, False, None, "1", [], [1], (), (1,), 0, 2, 3, 4, -1, -3, 999999999999)
        zero = next(square for square in all_squares(4) if exchange_looked(square, 0))
        self.let_by(exchange_paper(zero, 0))
        self.fails_with(3, exchange_paper(zero, 0), (2,), False)

    def test_clause_four(self):
        for at in (3, 4):
            crowds = self.paper[at]
            self.fails_with(4, self.paper, (at,), 0, True, None, "", (), [], [[]], tuple(crowds), crowds[:-1])
            self.fails_with(4, self.paper, (at,), crowds[1:], crowds + [[]], crowds * 2, dict_like(crowds))
            for place in (0, 7, 23):
                self.fails_with(4, self.paper, (at, place), 0, True, None, "x", (), ((0, 1, 2, 3),), [None], [[]], [()])
                self.fails_with(4, self.paper, (at, place), [(0, 1, 2, 3)] * 2, all_stands(4)[::-1], all_stands(3))
                self.fails_with(4, self.paper, (at, place), [(0, 1, 2, 2)], [(False, True, 2, 3)], [[0, 1, 2, 3]])

    def test_clause_five(self):
        stands = all_stands(4)
        other = columns_changed(TOLD, 1)
        with_border = next(stand for stand in stands if border(other, [stand]))
        led_to = self.paper[3]
        without_border = [at for at, stand in enumerate(stands) if with_border not in led_to[at]]
        self.fails_with(5, self.paper, (3, without_border[0]), added(led_to[without_border[0]], [with_border]))
        self.fails_with(5, self.paper, (3,), led_to[1:] + led_to[:1])
        self.fails_with(5, self.paper, (3, 23), all_stands(4)[:3])

    def test_clause_six(self):
        stands = all_stands(4)
        # Nothing led of anything goes with the borders, but there and back is not standing still.
        nothing = [[] for _ in stands]
        self.fails_with(6, self.paper, (3,), nothing)
        self.fails(6, ("exchange", TOLD, 1, nothing, nothing))
        self.fails_with(6, self.paper, (4,), nothing)
        stand = next(stand for stand in stands if border(TOLD, [stand]))
        for place in (0, 11, 23):
            self.fails_with(6, self.paper, (4, place), added(self.paper[4][place], [stand]))
        self.fails_with(6, self.paper, (4,), self.paper[4][1:] + self.paper[4][:1])

    def test_other_maps_that_hold(self):
        """What is tied otherwise by a border of a tie holds as well: the looker asks the clauses, not for the one map."""
        stands = all_stands(4)
        seen = 0
        for place, stand in enumerate(stands):
            meets = [one for one in stands if stand in border(TOLD, [one])]
            free = [one for one in stands if not border(TOLD, [one]) and one not in self.paper[4][place]]
            if not meets and free:
                self.let_by(changed(self.paper, (4, place), added(self.paper[4][place], free[:1])))
                seen += 1
        self.assertGreater(seen, 0)

    def test_the_first_of_two(self):
        self.fails(2, ("exchange", None, None, None, None))
        self.fails(2, ("exchange", EIGHT, True, [], []))
        self.fails(3, ("exchange", TOLD, 0, None, None))
        self.fails(4, ("exchange", TOLD, 1, None, None))
        self.fails_with(4, changed(self.paper, (3, 0), all_stands(4)[:1]), (4, 23), [None])
        rolled = self.paper[3][1:] + self.paper[3][:1]
        self.fails(5, ("exchange", TOLD, 1, rolled, [[] for _ in rolled]))

    def test_of_five_with_great_crowds(self):
        square, c = next((one, k) for one in all_squares(5)[7::50] for k in range(4) if exchange_looked(one, k))
        paper = exchange_paper(square, c)
        full = [all_stands(5) for _ in all_stands(5)]
        with self.assertRaises(NoPaper) as taken:
            look(("exchange", square, c, full, full))
        self.assertIn(taken.exception.at, (5, 6))
        with self.assertRaises(NoPaper) as taken:
            look(paper[:4] + (full,))
        self.assertEqual(taken.exception.at, 6)


def dict_like(crowds):
    return [(at, crowd) for at, crowd in enumerate(crowds)]


class PlacesTest(LookerTest):
    """A list for a tuple and a tuple for a list, and truths for 0 and 1, at every place of papers that hold."""

    def places(self, thing, path=()):
        if isinstance(thing, (list, tuple)):
            yield path, other_way(thing)
            for at, part in enumerate(thing):
                yield from self.places(part, path + (at,))
        elif isinstance(thing, int) and thing in (0, 1):
            yield path, bool(thing)
            yield path, None

    def test_at_every_place(self):
        small = next(square for square in all_squares(4) if exchange_looked(square, 1))
        papers = [moves_paper(PLAIN, [("put", 0, 1), ("tip",), ("rows", 1)]), class_paper(TIED, 2)]
        for paper in papers + [apart_paper(((0, 1, 2), (1, 2, 0))), exchange_paper(small, 1)]:
            self.let_by(paper)
            for path, value in self.places(paper):
                due = self.clause_at(paper[0], path)
                self.fails(due, changed(paper, path, value))

    def clause_at(self, kind, path):
        if not path:
            return 1
        by_kind = {"moves": [2, 3, 2], "class": [2, 3, 3], "apart": [2, 3, 3], "exchange": [2, 3, 4, 4]}
        return by_kind[kind][path[0] - 1]


if __name__ == "__main__":
    unittest.main()
