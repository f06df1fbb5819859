"""Ranges of columns, and those to which the runs and points of maps lead."""


def _line_and_first(columns):
    return columns[0], columns[1]


def _later(one, other):
    """The later one of two columns behind ranges; None is behind all."""
    if one is None or other is None:
        return None
    return max(one, other)


def joined(ranges):
    """The joined ranges of some ranges with columns, in a tuple."""
    found = []
    for line, first, after in sorted(ranges, key=_line_and_first):
        before = found[-1] if found else (None, 0, 0)
        if before[0] == line and (before[2] is None or first <= before[2]):
            found[-1] = (line, before[1], _later(before[2], after))
        else:
            found.append((line, first, after))
    return tuple(found)


def leading_pieces(own_map):
    """All runs and points of a map, each with the column behind it, or None if it has no end."""
    found = []
    for line in own_map.used_lines():
        row = own_map.row_at(line)
        afters = [piece[2] for piece in row[1:]] + [None]
        found.extend([(piece, after) for piece, after in zip(row, afters) if piece[0] != "gap"])
    return found


def reached(piece, after):
    """The range of the columns of its line to which a run or a point leads."""
    first = piece[5]
    if piece[0] == "point":
        return piece[4], first, first + 1
    return piece[4], first, None if after is None else first + after - piece[2]
