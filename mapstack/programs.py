"""Programs that are made of others: lines of pieces, which are pairs (signs, told).

Told is what a stretch tells at the first sign, as in mapstack.stretches.
"""

from mapstack.checks import TEXT_LIMIT
from mapstack.errors import TooLarge
from mapstack.maps import map_of_lines


def kept(source, line, signs, first, after):
    """The piece that stands from one column of a line of a source up to another one."""
    return signs[first:after], ("run", source, line, first, None)


def kept_line(source, line, signs):
    """The pieces of a line that stays as it is."""
    return [kept(source, line, signs, 0, len(signs))]


def replaced(source, line, signs, parts):
    """The pieces of a line with others in place of parts: ascending tuples (first, behind, pieces)."""
    made = []
    kept_from = 0
    for first, after, pieces in parts:
        made.append(kept(source, line, signs, kept_from, first))
        made.extend(pieces)
        kept_from = after
    made.append(kept(source, line, signs, kept_from, len(signs)))
    return made


def _stretches(pieces):
    """What a line of pieces tells; nothing behind its end."""
    made = []
    column = 0
    for signs, told in pieces:
        made.append((column, told))
        column = column + len(signs)
    return made + [(column, None)]


def whole_program(lines):
    """The text and the map of lines of pieces."""
    # Told before anything is joined, because the same long signs may stand in many pieces.
    many = sum([len(signs) for pieces in lines for signs, _ in pieces])
    if many + len(lines) - 1 > TEXT_LIMIT:
        raise TooLarge(TEXT_LIMIT)
    text = "\n".join(["".join([signs for signs, _ in pieces]) for pieces in lines])
    return text, map_of_lines({line: _stretches(pieces) for line, pieces in enumerate(lines)})
