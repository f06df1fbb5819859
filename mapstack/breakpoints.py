"""Breakpoints: positions of sources, and where a program that was made of these comes to them."""

from mapstack.checks import check_up_to, is_count
from mapstack.edits import Edit
from mapstack.errors import BadEdit, NoPlace
from mapstack.images import Images
from mapstack.maps import check_map, check_numbers, check_source

REACH_LIMIT = 1000


def _first_covered(ranges, column):
    """The first column from a column on that lies in one of some joined ranges, or None."""
    for _, first, after in ranges:
        if after is None or after > column:
            return max(first, column)
    return None


class Breakpoints:
    """Numbered positions of sources, each bound to a position that the generated text comes from."""

    def __init__(self, map_here, *, reach=20):
        check_map(map_here)
        check_up_to(reach, REACH_LIMIT)
        self._reach = reach
        self._map = map_here
        self._images = Images(map_here)
        self._next = 0
        self._asked = {}
        self._bound = {}

    def _binding(self, asked):
        """The position to which an asked one is bound, or None."""
        source, asked_line, column = asked
        for line in range(asked_line, asked_line + self._reach + 1):
            first = _first_covered(self._images.coverage_of(source, line), column)
            if first is not None:
                return source, line, first
            column = 0
        return None

    def _check_number(self, number):
        if not is_count(number) or number not in self._asked:
            raise NoPlace(number)

    def put(self, source, line, column=0):
        """Make a breakpoint; its number."""
        check_source(source)
        check_numbers(line, column)
        number = self._next
        self._next = number + 1
        self._asked[number] = (source, line, column)
        self._bound[number] = self._binding((source, line, column))
        return number

    def clear(self, number):
        """Remove a breakpoint."""
        self._check_number(number)
        del self._asked[number]
        del self._bound[number]

    def asked(self, number):
        """The position (source, line, column) that is asked for."""
        self._check_number(number)
        return self._asked[number]

    def bound(self, number):
        """The position (source, line, column) to which a breakpoint is bound, or None."""
        self._check_number(number)
        return self._bound[number]

    def ranges(self, number):
        """The joined ranges at which a breakpoint is hit."""
        self._check_number(number)
        bound = self._bound[number]
        if bound is None:
            return ()
        return self._images.ranges_at(bound[0], bound[1], bound[2])

    def numbers(self):
        """The numbers of all breakpoints, ascending."""
        return tuple(sorted(self._asked))

    def hits(self, line, column):
        """The numbers of those that are hit at a generated position, ascending."""
        check_numbers(line, column)
        target = self._map.target_at(line, column)
        if target is None:
            return ()
        return tuple([number for number in sorted(self._bound) if self._bound[number] == target[:3]])

    def follow(self, map_here, *, source=None, edit=None):
        """Go on with another map, and an edit of a source; the numbers with old and new bound positions that differ."""
        check_map(map_here)
        if source is not None:
            check_source(source)
        if (source is None and edit is not None) or (source is not None and not isinstance(edit, Edit)):
            raise BadEdit(None)
        self._map = map_here
        self._images = Images(map_here)
        changes = []
        for number in sorted(self._asked):
            if self._asked[number][0] == source:
                self._move(number, edit)
            old, new = self._bound[number], self._binding(self._asked[number])
            if old != new:
                self._bound[number] = new
                changes.append((number, old, new))
        return tuple(changes)

    def _move(self, number, edit):
        """Move an asked position with an edit of its source."""
        source, line, column = self._asked[number]
        place = edit.forward(line, column)
        if place is None:
            place = edit.new_high
        self._asked[number] = (source,) + place

    def copy(self):
        """Independent breakpoints with the same numbers, now and to come."""
        made = Breakpoints(self._map, reach=self._reach)
        made._next = self._next
        made._asked = dict(self._asked)
        made._bound = dict(self._bound)
        return made
