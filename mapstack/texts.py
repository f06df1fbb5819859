"""Texts: their lines, extents and positions."""

from mapstack.checks import check_count, check_span, check_text, check_up_to
from mapstack.errors import NoPlace


def lines_of(text):
    """The parts between the line feeds."""
    check_text(text)
    return tuple(text.split("\n"))


def rows_of(text):
    """The lines with their line feeds, and what is left behind the last one, if anything."""
    lines = text.split("\n")
    rows = [line + "\n" for line in lines[:-1]]
    return rows + [line for line in lines[-1:] if line]


def extent_of(text):
    """The pair of the number of line feeds and the length of the last line."""
    check_text(text)
    return text.count("\n"), len(text) - text.rfind("\n") - 1


def added(one, other):
    """The extent of two texts, one behind the other, from the extents of both."""
    if other[0] == 0:
        return one[0], one[1] + other[1]
    return one[0] + other[0], other[1]


def behind(line, column, text):
    """The position behind a text that begins at a position."""
    check_count(line)
    check_count(column)
    return added((line, column), extent_of(text))


def end_of(text):
    """The position of the end of a text."""
    return extent_of(text)


def has_place(text, line, column):
    """Whether a position is in a text, not virtual."""
    lines = lines_of(text)
    check_count(line)
    check_count(column)
    return line < len(lines) and column <= len(lines[line])


def index_of(text, line, column):
    """The number of signs in front of a position of a text."""
    if not has_place(text, line, column):
        raise NoPlace((line, column))
    lines = lines_of(text)
    return sum([len(row) + 1 for row in lines[:line]]) + column


def place_of(text, index):
    """The position with a number of signs in front."""
    check_text(text)
    check_up_to(index, len(text))
    return extent_of(text[:index])


def part_of(text, low, high):
    """What stands in a text from one position up to another one."""
    check_text(text)
    check_span(low, high)
    first = index_of(text, low[0], low[1])
    return text[first:index_of(text, high[0], high[1])]


def moved(place, old, new):
    """Where a position from old on comes to stand, if old comes to stand at new."""
    line, column = place
    if line == old[0]:
        return new[0], column - old[1] + new[1]
    return line - old[0] + new[0], column
