"""The least of a sum of shares, found with whole numbers alone.

Slacks are numbers that must not be below 0. As many of them as there are columns stand at 0; each row tells another
slack by these: a coefficient for each column, then a number, then a tie, which decides where the number is 0. All of
them, and the dues, are whole numbers over a common scale. A due tells by how much the sum grows with the slack of its
column; dues are never below 0. Each slack has a mark, an integer; where there is a choice, the least mark is taken, so
that the swaps come to an end.
"""


def is_below(row):
    """Whether the slack of the row is below 0."""
    return row[-2] < 0 or (row[-2] == 0 and row[-1] < 0)


def swapped(row, top, column, scale):
    """A row when the slacks of the top row and of the column have changed places: its scale is then top[column]."""
    part, pivot = row[column], top[column]
    changed = [(number * pivot - part * told) // scale for number, told in zip(row, top)]
    changed[column] = part
    return changed


def swapped_top(top, column, scale):
    """The top row when its slack and that of the column have changed places."""
    changed = [-number for number in top]
    changed[column] = scale
    return changed


class Table:
    """The rows and the dues; at first the slacks of the columns have the marks from 0 on, those of the rows go on."""

    def __init__(self, rows, dues):
        width = len(dues)
        self.rows = [list(row) for row in rows]
        # The dues end in two numbers, too, so that they change as rows do; they tell by how much the sum has grown.
        self.dues = [*dues, 0, 0]
        self.scale = 1
        self.column_marks = list(range(width))
        self.row_marks = list(range(width, width + len(rows)))

    def first_below(self):
        """The index of the row below 0 with the least mark; None if there is none."""
        marks = [self.row_marks[at] for at, row in enumerate(self.rows) if is_below(row)]
        if not marks:
            return None
        return self.row_marks.index(min(marks, key=int))

    def is_cheaper(self, top, column, other):
        """Whether it is better to raise the top row by the slack of the first column than by that of the other."""
        one, two = self.dues[column] * top[other], self.dues[other] * top[column]
        return one < two or (one == two and self.column_marks[column] < self.column_marks[other])

    def best_column(self, top):
        """The column whose slack raises the top row at the least due; None if none can raise it."""
        best = None
        for column in range(len(self.column_marks)):
            if top[column] > 0 and (best is None or self.is_cheaper(top, column, best)):
                best = column
        return best

    def swap(self, at, column):
        """Lets the slacks of a row and of a column change places."""
        top, scale = self.rows[at], self.scale
        rows = [swapped(row, top, column, scale) for row in self.rows]
        rows[at] = swapped_top(top, column, scale)
        self.dues = swapped(self.dues, top, column, scale)
        self.rows = rows
        self.scale = top[column]
        mark = self.row_marks[at]
        self.row_marks[at] = self.column_marks[column]
        self.column_marks[column] = mark

    def lift(self):
        """Swaps until no row is below 0, and returns None; or the index of a row that nothing can raise to 0."""
        at = self.first_below()
        while at is not None:
            column = self.best_column(self.rows[at])
            if column is None:
                return at
            self.swap(at, column)
            at = self.first_below()
        return None

    def slack_of(self, mark):
        """The slack with this mark, when no row is below 0."""
        if mark in self.column_marks:
            return 0
        return self.rows[self.row_marks.index(mark)][-2] // self.scale

    def due_of(self, mark):
        """The due of the slack with this mark, 0 if it is that of a row."""
        if mark in self.row_marks:
            return 0
        return self.dues[self.column_marks.index(mark)] // self.scale

    def part_of(self, mark, at):
        """How often the slack with this mark is taken in a sum of slacks that a row keeps below 0."""
        if mark in self.row_marks:
            return self.scale if self.row_marks[at] == mark else 0
        return -self.rows[at][self.column_marks.index(mark)]
