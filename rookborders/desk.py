"""The desk: it keeps a square and what was done, is told rows, and answers texts."""

from rookborders.errors import NoRow, NoStep
from rookborders.handles import least_by_sum, least_by_table, of_surface
from rookborders.moves import is_move, moved
from rookborders.notes import square_read, square_shown, sum_shown, table_shown
from rookborders.squares import lines_of
from rookborders.sums import own_sum
from rookborders.tables import rest, table

MOST_FIGURES = 6


def number_read(word):
    """Tell the whole number that a word writes; refuse any other word with NoRow."""
    figures = word[1:] if word.startswith("-") else word
    if not figures.isascii() or not figures.isdigit() or len(figures) > MOST_FIGURES:
        raise NoRow("this word writes no whole number that may stand here")
    number = int(word)
    # Noughts ahead and a nought with a minus are read as numbers, but not written so.
    if str(number) != word:
        raise NoRow("a whole number isn't written so")
    return number


def told_square(square):
    """Answer a square."""
    return square_shown(square)


def told_lines(square):
    """Answer the lines of a square, each by its columns."""
    return " ".join([",".join([str(column) for column in line]) for line in lines_of(square)])


def told_table(square):
    """Answer the table of a square."""
    return table_shown(table(square))


def told_rest(square):
    """Answer the rest of a square's table."""
    return table_shown(rest(square))


def told_sum(square):
    """Answer the own sum of a square."""
    return sum_shown(own_sum(square))


def told_handles(square):
    """Answer the three numbers of handles of a square with one line."""
    return f"{least_by_sum(square)} {least_by_table(square)} {of_surface(square)}"


ANSWERS = {
    "show": told_square,
    "lines": told_lines,
    "table": told_table,
    "rest": told_rest,
    "sum": told_sum,
    "handles": told_handles,
}


def square_behind(square, words):
    """Tell the square behind the deed that words tell, or refuse it."""
    if words[0] == "square" and len(words) == 2:
        return square_read(words[1])
    move = (words[0],) + tuple([number_read(word) for word in words[1:]])
    if not is_move(move):
        raise NoRow("the desk knows no such row")
    return moved(square, move)


class Desk:
    """A square, the squares ahead of each deed that isn't undone, and those behind each undone one."""

    def __init__(self):
        self.square = ((0, 1), (1, 0))
        self.past = []
        self.undone = []

    def say(self, row):
        """Answer a row, or refuse it."""
        if row in ANSWERS:
            answer = ANSWERS[row]
            return answer(self.square)
        if row == "undo":
            self.undo()
        elif row == "redo":
            self.redo()
        else:
            self.keep(square_behind(self.square, row.split(" ")))
        return square_shown(self.square)

    def keep(self, square):
        """Keep the square behind a deed."""
        self.past.append(self.square)
        self.undone = []
        self.square = square

    def undo(self):
        """Go back to the square ahead of the last deed."""
        if not self.past:
            raise NoStep("there is nothing to undo")
        self.undone.append(self.square)
        self.square = self.past.pop()

    def redo(self):
        """Do the last undone deed again."""
        if not self.undone:
            raise NoStep("there is nothing to do again")
        self.past.append(self.square)
        self.square = self.undone.pop()
