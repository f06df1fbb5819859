"""Drafts: texts that grow piece by piece, with what each piece tells, and the steps that made them.

A piece is a pair (signs, told), in which a line feed stands at the end only. Told is what a
stretch tells at the first sign.
"""

from mapstack.checks import TEXT_LIMIT
from mapstack.errors import TooLarge
from mapstack.texts import end_of, place_of, rows_of


def _told_below(told, by):
    """What is told at the beginning of the line that stands so many lines below."""
    if by == 0 or told is None or told[0] == "point":
        return told
    kind, source, line, _, word = told
    return kind, source, line + by, 0, word


def _signs_of(pieces):
    return "".join([signs for signs, _ in pieces])


def _number_in_front(pieces, index):
    """How many pieces stand in front of an index of the text, which is between two of them or at an end."""
    number = many = 0
    while many < index:
        many += len(pieces[number][0])
        number += 1
    return number


class Draft:
    """A text in pieces, with indents, which are numbers of spaces, and marks."""

    def __init__(self):
        self.text = ""
        self.indents = ()
        # Pairs of a name and an index of the text, as they were made.
        self.spots = ()
        self._pieces = []
        self._past = []

    def copy(self):
        """An independent draft with the same steps."""
        made = Draft()
        made.text = self.text
        made.indents = self.indents
        made.spots = self.spots
        made._pieces = list(self._pieces)
        made._past = list(self._past)
        return made

    def all_pieces(self):
        """The pieces in a new list."""
        return list(self._pieces)

    def place_at(self, index):
        """The position of an index of the text."""
        return place_of(self.text, index)

    def stretch_lines(self):
        """The stretches of the lines of the text, in a dict; nothing stands behind a line."""
        lines = {}
        line = column = 0
        for signs, told in self._pieces:
            lines.setdefault(line, []).append((column, told))
            column = column + len(signs.rstrip("\n"))
            lines[line].append((column, None))
            if signs.endswith("\n"):
                line, column = line + 1, 0
        return lines

    def step_count(self):
        return len(self._past)

    def _put(self, index, number, pieces):
        """A step: put pieces in, behind so many signs and so many pieces."""
        signs = _signs_of(pieces)
        self._past.append((index, len(signs), number, len(pieces), self.indents, self.spots))
        self.text = self.text[:index] + signs + self.text[index:]
        self._pieces[number:number] = pieces

    def step_back(self):
        """Take the last step back."""
        index, many_signs, number, many_pieces, indents, spots = self._past.pop()
        self.text = self.text[:index] + self.text[index + many_signs:]
        del self._pieces[number:number + many_pieces]
        self.indents = indents
        self.spots = spots

    def _check_room(self, many):
        """Refuse so many signs more if the text would become too long."""
        if len(self.text) + many > TEXT_LIMIT:
            raise TooLarge(TEXT_LIMIT)

    def _put_behind(self, pieces):
        self._put(len(self.text), len(self._pieces), pieces)

    def set_indents(self, indents):
        """A step: have other indents from here on."""
        self._put_behind([])
        self.indents = indents

    def set_spots(self, spots):
        """A step: have other marks."""
        self._put_behind([])
        self.spots = spots

    def put_text(self, text, told):
        """A step: put a text behind, which tells something, with its indents; the position of its first sign."""
        rows = rows_of(text)
        line, column = end_of(self.text)
        indent = " " * sum(self.indents)
        # A line feed is not indented, nor what goes on behind the beginning of a line.
        indented = [row != "\n" and (index > 0 or column == 0) for index, row in enumerate(rows)]
        self._check_room(len(text) + len(indent) * indented.count(True))
        pieces = []
        for index, row in enumerate(rows):
            if indent and indented[index]:
                pieces.append((indent, None))
            pieces.append((row, _told_below(told, index)))
        self._put_behind(pieces)
        return line, column + len(indent) if rows and indented[0] else column

    def put_pieces(self, pieces):
        """A step: put pieces behind, without indents."""
        self._check_room(len(_signs_of(pieces)))
        self._put_behind(pieces)

    def put_between(self, index, pieces, spots):
        """A step: put pieces in at the index of a mark, without indents, and have other marks."""
        self._check_room(len(_signs_of(pieces)))
        # A mark is made at the end, so it always stands between two pieces.
        self._put(index, _number_in_front(self._pieces, index), pieces)
        self.spots = spots
