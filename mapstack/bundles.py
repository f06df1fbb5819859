"""Bundles: texts with their maps, one directly behind the other."""

from mapstack.checks import check_text, is_place, is_up_to
from mapstack.errors import BadNumber, BadPart, BadPlace, NoPlace
from mapstack.lines import START, closed_lines, cut_lines, placed_lines
from mapstack.maps import Map, check_map, is_position, lines_of_map, map_of_lines, pieces_of_lines
from mapstack.texts import added, end_of, has_place, moved, part_of


def cut(map_here, begin, end=None):
    """The map of what stands from one position on, up to another one, if there is one."""
    check_map(map_here)
    if not is_position(begin):
        raise BadPlace(begin)
    if end is not None and (not is_position(end) or end < begin):
        raise BadPlace(end)
    lines = lines_of_map(map_here)
    if end is not None:
        lines = closed_lines(lines, end)
    return map_of_lines(cut_lines(lines, begin))


def _is_part(value):
    """Whether a value is a tuple of a text and a map."""
    if not isinstance(value, tuple) or len(value) != 2:
        return False
    return isinstance(value[0], str) and isinstance(value[1], Map)


def _cut_off(part):
    """A part whose map tells nothing behind the end of its text."""
    text, own_map = part
    return text, map_of_lines(closed_lines(lines_of_map(own_map), end_of(text)))


def _check_place(line, column):
    if not is_position((line, column)):
        raise BadPlace((line, column))


def _check_joints(text, joints):
    """Refuse what is no tuple, and the first joint that is not in the text, or in front of the one before."""
    if not isinstance(joints, tuple):
        raise BadPlace(joints)
    before = START
    for joint in joints:
        if not is_place(joint) or not has_place(text, joint[0], joint[1]) or joint < before:
            raise BadPlace(joint)
        before = joint


class Bundle:
    """Parts, which are tuples of a text and its map, one directly behind the other."""

    def __init__(self, *parts):
        for index, part in enumerate(parts):
            if not _is_part(part):
                raise BadPart(index)
        begins = [START]
        for text, _ in parts:
            begins.append(added(begins[-1], end_of(text)))
        self._parts = parts
        self._begins = tuple(begins[:-1])
        self._end = begins[-1]

    @classmethod
    def of(cls, parts):
        """The bundle of a tuple of parts."""
        if not isinstance(parts, tuple):
            raise BadPart(None)
        return cls(*parts)

    @classmethod
    def cut_up(cls, text, map_here, joints=()):
        """The bundle of the pieces of a text, cut at some joints, with the cuts of its map."""
        check_text(text)
        check_map(map_here)
        _check_joints(text, joints)
        made = []
        begin = START
        for joint in joints:
            made.append((part_of(text, begin, joint), cut(map_here, begin, joint)))
            begin = joint
        # Its map needs no end here, because each part is cut off at its own.
        made.append((part_of(text, begin, end_of(text)), cut(map_here, begin)))
        return cls(*made)

    def whole_text(self):
        """The texts of all parts together."""
        return "".join([text for text, _ in self._parts])

    def _stretch_lines(self):
        """The stretches of the lines of the bundle."""
        lines = {}
        for (text, own_map), begin in zip(self._parts, self._begins):
            shut = closed_lines(lines_of_map(own_map), end_of(text))
            for line, stretches in placed_lines(shut, begin).items():
                lines[line] = lines.get(line, []) + stretches
        return lines

    def whole_map(self):
        """The map of the whole text."""
        return map_of_lines(self._stretch_lines())

    def _all_pieces(self):
        """The pieces of all lines, also if they are too many for a Map."""
        return pieces_of_lines(self._stretch_lines())

    def parts(self):
        """Yield the parts, with their maps cut off at their ends."""
        made = [_cut_off(part) for part in self._parts]
        yield from made

    def joints(self):
        """Yield the positions at which the parts begin."""
        yield from self._begins

    def __len__(self):
        return len(self._parts)

    def __getitem__(self, at):
        """A part by its number, with its map cut off at its end."""
        self._check_number(at)
        return _cut_off(self._parts[at])

    def __iter__(self):
        raise TypeError("a bundle is not iterated over; parts() yields its parts")

    def __add__(self, other):
        """The bundle of the parts of both."""
        if not isinstance(other, Bundle):
            return NotImplemented
        both = self._parts + other._parts
        return Bundle(*both)

    def __eq__(self, other):
        if not isinstance(other, Bundle) or self.whole_text() != other.whole_text():
            return False
        return self._all_pieces() == other._all_pieces()

    def __bool__(self):
        """Whether there is text."""
        return bool(self.whole_text())

    def _check_number(self, number):
        if not is_up_to(number, len(self._parts) - 1):
            raise BadNumber(number)

    def lies_in(self, line, column):
        """The number of the part in which a position lies, with its line and column there."""
        _check_place(line, column)
        place = (line, column)
        if place >= self._end:
            raise NoPlace(place)
        number = len([begin for begin in self._begins if begin <= place]) - 1
        return (number,) + moved(place, self._begins[number], START)

    def stands_at(self, number, line, column):
        """The position in the bundle of one of a part."""
        self._check_number(number)
        _check_place(line, column)
        if (line, column) >= end_of(self._parts[number][0]):
            raise NoPlace((line, column))
        return moved((line, column), START, self._begins[number])
