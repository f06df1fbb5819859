"""Reading the text of a map, sign by sign.

A stage tells what is read next. Where it is a number, the right numbers are the even ones up to one
top and the odd ones up to another one, because numbers with a sign are folded.
"""

from mapstack.codes import Alphabet, digit_fits, unfolded
from mapstack.maps import NAME_LIMIT, NAME_SIGNS, NUMBER_LIMIT

NAMES_LIMIT = 1000
LINES_LIMIT = 10000
# The stages at which a line may end, and of these the ones behind a part of a segment.
SEGMENT_ENDS = ("mark", "word mark", "segment end")
LINE_ENDS = ("line", "mark", "word mark", "segment end")
KINDS = {">": "run", ".": "point"}


def _difference_tops(last, most):
    """The tops for a folded difference of the last number and one from 0 to most."""
    return 2 * (most - last), 2 * last - 1


class NameList:
    """A list of different names, and how far they are in use."""

    def __init__(self):
        self._names = []
        self._many_used = 0
        self._last_number = 0
        self._many_with = {}

    def copy(self):
        made = NameList()
        made._names = list(self._names)
        made._many_used = self._many_used
        made._last_number = self._last_number
        made._many_with = {start: self._many_with[start] for start in self._many_with}
        return made

    def is_empty(self):
        return self._names == []

    def has_all(self, length, start):
        """Whether all names of a length that begin so are in the list, which has room for 1,000."""
        missing = length - len(start)
        if missing > 1:
            return False
        every = len(NAME_SIGNS) if missing == 1 else 1
        return self._many_with.get((length, start), 0) >= every

    def put(self, name):
        self._names.append(name)
        for start in (name, name[:-1]):
            many = self._many_with.get((len(name), start), 0)
            self._many_with[(len(name), start)] = many + 1

    def tops(self):
        """The tops for the next number: a name that is used for the first time has the next one."""
        return _difference_tops(self._last_number, min(self._many_used, len(self._names) - 1))

    def used_name(self, by):
        """The name whose number is so much greater than the last one, which is now in use."""
        self._last_number = self._last_number + by
        self._many_used = max(self._many_used, self._last_number + 1)
        return self._names[self._last_number]


class Reader:
    """What is known behind the beginning of a text of a map."""

    def __init__(self, alphabet):
        self._alphabet = alphabet
        self._length = 0
        self._stage = "name count"
        self._number = 0
        self._lists = [NameList(), NameList()]
        self._list_index = 0
        self._names_to_come = 0
        self._name_length = 0
        self._name = ""
        self._line = 0
        self._column = -1
        self._kind = ""
        self._source = ""
        self._from_line = 0
        self._from_column = 0
        self._segment = None

    def copy(self):
        made = Reader(self._alphabet)
        made._length = self._length
        made._stage = self._stage
        made._number = self._number
        made._lists = [names.copy() for names in self._lists]
        made._list_index = self._list_index
        made._names_to_come = self._names_to_come
        made._name_length = self._name_length
        made._name = self._name
        made._line = self._line
        made._column = self._column
        made._kind = self._kind
        made._source = self._source
        made._from_line = self._from_line
        made._from_column = self._from_column
        made._segment = self._segment
        return made

    def length(self):
        """How many characters were taken."""
        return self._length

    def can_end(self):
        return self._stage in LINE_ENDS

    def last_segments(self):
        """The list of the segment that the end of the text makes certain, if there is one."""
        return [] if self._segment is None else [self._segment]

    def accepts(self, sign):
        """Whether a character can follow."""
        if self._stage == "name":
            start = self._name + sign
            return sign in NAME_SIGNS and not self._lists[self._list_index].has_all(self._name_length, start)
        if sign in Alphabet.MARKS:
            return self._accepts_mark(sign)
        index = self._alphabet.sign_index(sign)
        if index is None or self._stage in SEGMENT_ENDS:
            return False
        if self._stage == "name length" and self._number == 0 and index < 2:
            return index == 1 and not self._lists[self._list_index].has_all(1, "")
        even_top, odd_top = self._tops()
        return digit_fits(self._number, index, even_top, odd_top)

    def _accepts_mark(self, sign):
        if sign == ";":
            return self._stage in LINE_ENDS and self._line < LINES_LIMIT - 1
        if sign == ",":
            return self._stage in SEGMENT_ENDS and self._column < NUMBER_LIMIT
        if sign == "'":
            return self._stage == "word mark" and not self._lists[1].is_empty()
        return self._stage == "mark" and not self._lists[0].is_empty()

    def _tops(self):
        """The tops of the right numbers at a stage that is a number."""
        if self._stage == "name count":
            return NAMES_LIMIT, NAMES_LIMIT
        if self._stage == "name length":
            return NAME_LIMIT, NAME_LIMIT
        if self._stage == "source":
            return self._lists[0].tops()
        if self._stage == "from line":
            return _difference_tops(self._from_line, NUMBER_LIMIT)
        if self._stage == "from column":
            return _difference_tops(self._from_column, NUMBER_LIMIT)
        if self._stage == "word":
            return self._lists[1].tops()
        room = NUMBER_LIMIT - self._column - 1
        return room, room

    def take(self, sign):
        """Go on behind a character that is accepted; the list of the segments that become certain."""
        self._length = self._length + 1
        if self._stage == "name":
            self._take_name_sign(sign)
        elif sign in Alphabet.MARKS:
            return self._take_mark(sign)
        else:
            self._take_digit(self._alphabet.sign_index(sign))
        return []

    def _take_mark(self, sign):
        if sign in KINDS:
            self._kind = KINDS[sign]
            self._stage = "source"
            return []
        if sign == "'":
            self._stage = "word"
            return []
        certain = self.last_segments()
        self._segment = None
        self._stage = "column"
        if sign == ";":
            self._stage = "line"
            self._line = self._line + 1
            self._column = -1
        return certain

    def _take_digit(self, index):
        number = 32 * self._number + (index & 31)
        if index < 32:
            self._number = 0
            self._take_number(number)
        else:
            self._number = number
            if self._stage == "line":
                self._stage = "column"

    def _take_number(self, number):
        """Go on behind a whole code."""
        if self._stage == "name count":
            self._names_to_come = number
            self._go_on_with_names()
        elif self._stage == "name length":
            self._name_length = number
            self._name = ""
            self._stage = "name"
        elif self._stage == "source":
            self._source = self._lists[0].used_name(unfolded(number))
            self._stage = "from line"
        elif self._stage == "from line":
            self._from_line = self._from_line + unfolded(number)
            self._stage = "from column"
        elif self._stage == "from column":
            self._from_column = self._from_column + unfolded(number)
            place = (self._line, self._column, self._source, self._from_line, self._from_column)
            self._segment = (self._kind,) + place
            self._stage = "word mark"
        elif self._stage == "word":
            self._segment = self._segment + (self._lists[1].used_name(unfolded(number)),)
            self._stage = "segment end"
        else:
            self._column = self._column + 1 + number
            self._segment = ("gap", self._line, self._column)
            self._stage = "mark"

    def _take_name_sign(self, sign):
        self._name = self._name + sign
        if len(self._name) == self._name_length:
            self._lists[self._list_index].put(self._name)
            self._names_to_come = self._names_to_come - 1
            self._go_on_with_names()

    def _go_on_with_names(self):
        """Find what is read behind a name, or behind the number of names."""
        if self._names_to_come > 0:
            self._stage = "name length"
        elif self._list_index == 0:
            self._list_index = 1
            self._stage = "name count"
        else:
            self._stage = "line"
