"""Words of texts, read one behind the other: the first one that cannot stand is told by its line and its index."""

from signtown.errors import BadText


class Words:
    """Lines of words, parted at each space, and how far they are read."""

    def __init__(self, lines):
        self._rows = [line.split(" ") for line in lines]
        self._line = 0
        self._word = 0

    def is_read(self):
        """Whether all lines are read."""
        return self._line == len(self._rows)

    def is_line_read(self):
        """Whether no word of the line is left, or no line."""
        return self.is_read() or self._word == len(self._rows[self._line])

    def begins(self, head):
        """Whether one more line is left, and begins with this word."""
        return not self.is_read() and self._rows[self._line][0] == head

    def take(self, can_stand):
        """The next word of the line; can_stand tells whether it can."""
        if self.is_line_read() or not can_stand(self._rows[self._line][self._word]):
            raise BadText(self._line, self._word)
        self._word += 1
        return self._rows[self._line][self._word - 1]

    def take_head(self, head):
        """Reads the first word of a line, which can be this one alone."""
        self.take(lambda word: word == head)

    def take_line(self, first_wrong):
        """The list of all words of a line; first_wrong tells the index of the first that cannot stand, or None."""
        row = self._rows[self._line]
        wrong = first_wrong(row)
        if wrong is not None:
            raise BadText(self._line, wrong)
        self._line += 1
        return row

    def end_line(self):
        """Goes on to the next line; a word that is left is one too many."""
        if not self.is_line_read():
            raise BadText(self._line, self._word)
        self._line += 1
        self._word = 0

    def end(self):
        """A line that is left is one too many."""
        if not self.is_read():
            raise BadText(self._line, 0)
