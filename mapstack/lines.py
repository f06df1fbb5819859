"""Lines: dicts from lines to their stretches, closed, cut, and placed elsewhere."""

from mapstack.stretches import closed_at, cut_from
from mapstack.texts import moved

START = (0, 0)


def closed_lines(lines, end):
    """The stretches of some lines in front of a position."""
    kept = {line: lines[line] for line in lines if line < end[0]}
    if end[0] in lines:
        kept[end[0]] = closed_at(lines[end[0]], end[1])
    return kept


def cut_lines(lines, begin):
    """The stretches of some lines from a position on, which becomes (0, 0)."""
    kept = {line - begin[0]: lines[line] for line in lines if line > begin[0]}
    if begin[0] in lines:
        kept[0] = cut_from(lines[begin[0]], begin[1])
    return kept


def placed_lines(lines, begin):
    """The stretches of some lines, whose (0, 0) comes to stand at a position."""
    placed = {}
    for line, stretches in lines.items():
        new_line, by = moved((line, 0), START, begin)
        placed[new_line] = [(column + by, told) for column, told in stretches]
    return placed
