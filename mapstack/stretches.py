"""Stretches: what a map tells on one line, from columns on.

A line is a list of pairs (column, told), ascending: from this column up to that of the next pair
the line tells what told says, and in front of the first one it tells nothing. Told is None for
nothing, or a tuple (kind, source, line, column, word) with the target of the first column.
"""


def told_further(told, by):
    """What is told so many columns further."""
    if told is None or told[0] == "point":
        return told
    kind, source, line, column, word = told
    return kind, source, line, column + by, word


def told_named(told, names):
    """What is told, with the new name of its source in a dict; None if it has none there."""
    if told is None or told[1] not in names:
        return None
    return told[:1] + (names[told[1]],) + told[2:]


def told_worded(told, word):
    """What is told, with this word."""
    return None if told is None else told[:4] + (word,)


def word_of(piece):
    """The word of the targets of a run or a point, or None."""
    return piece[6] if len(piece) > 6 else None


def told_of(piece):
    """What a segment tells at its first column."""
    if piece[0] == "gap":
        return None
    return piece[0], piece[3], piece[4], piece[5], word_of(piece)


def stretches_of(pieces_of_line):
    """The stretches of some segments of one line, which are ascending."""
    return [(piece[2], told_of(piece)) for piece in pieces_of_line]


def _some_columns(stretches):
    """The first three columns of each stretch with their targets, or fewer if it has not so many.

    All further columns go on as the third one does: behind the first column, which may end the
    piece in front, and the second one, which then begins a new piece.
    """
    columns = []
    for index, (begin, told) in enumerate(stretches):
        width = 3
        if index + 1 < len(stretches):
            width = min(3, stretches[index + 1][0] - begin)
        for by in range(width):
            further = told_further(told, by)
            columns.append((begin + by, further[1:] if further else None))
    return columns


def _goes_on(piece, column, target):
    """Whether the next column of a piece leads to a target."""
    begin, kind, first = piece
    if kind == "run":
        source, line, from_column, word = first
        return target == (source, line, from_column + column - begin, word)
    return target == first


def fewest(stretches):
    """The pieces of a line: tuples (column, kind, target of this column), gaps with None."""
    made = []
    # The first one is the gap in front, which does not count.
    piece = (0, "gap", None)
    for column, target in _some_columns(stretches):
        if target is not None and target == piece[2] and column == piece[0] + 1:
            piece = (piece[0], "point", target)
        if not _goes_on(piece, column, target):
            made.append(piece)
            piece = (column, "gap" if target is None else "run", target)
    made.append(piece)
    return made[1:]


def piece_tuples(line, stretches):
    """The pieces of a line as segments, in a tuple."""
    made = []
    for begin, kind, target in fewest(stretches):
        if target is None:
            made.append((kind, line, begin))
        else:
            source, from_line, from_column, word = target
            words = () if word is None else (word,)
            made.append((kind, line, begin, source, from_line, from_column) + words)
    return tuple(made)


def piece_index(row, column):
    """The index of the piece of a line in which a column lies; -1 in front of the first one."""
    low, high = 0, len(row)
    while low < high:
        middle = (low + high) // 2
        if row[middle][2] <= column:
            low = middle + 1
        else:
            high = middle
    return low - 1


def told_at(stretches, columns):
    """What a line tells at some ascending columns, in a list."""
    found = []
    at = -1
    for column in columns:
        while at + 1 < len(stretches) and stretches[at + 1][0] <= column:
            at += 1
        found.append(None if at < 0 else told_further(stretches[at][1], column - stretches[at][0]))
    return found


def all_begins(one, other):
    """The columns at which a stretch of one of two lines begins, ascending."""
    return sorted({begin for begin, _ in one} | {begin for begin, _ in other})


def overlaid(one, other):
    """What one line tells, and where that is nothing, what the other one tells."""
    begins = all_begins(one, other)
    tolds = zip(begins, told_at(one, begins), told_at(other, begins))
    return [(begin, over if over else under) for begin, over, under in tolds]


def closed_at(stretches, length):
    """What a line tells in front of a length, and nothing behind."""
    return [(begin, told) for begin, told in stretches if begin < length] + [(length, None)]


def cut_from(stretches, column):
    """What a line tells from a column on, counted from there."""
    front = told_at(stretches, [column])
    return [(0, front[0])] + [(begin - column, told) for begin, told in stretches if begin > column]


def _meeting(one, other):
    """How many columns further both tell the same, or None: a run and a point may meet once."""
    if one is None or other is None or one[0] == other[0]:
        return None
    run, point = (one, other) if one[0] == "run" else (other, one)
    if (run[1], run[2], run[4]) != (point[1], point[2], point[4]) or run[3] > point[3]:
        return None
    return point[3] - run[3]


def _unlike_parts(first, after, one, other):
    """The parts of the columns from first on and in front of after in which two stretches are unlike."""
    if one == other:
        return []
    by = _meeting(one, other)
    if by is None or (after is not None and first + by >= after):
        return [(first, after)]
    met = first + by
    parts = [(first, met), (met + 1, after)]
    return [(low, high) for low, high in parts if high is None or low < high]


def unlike_parts(one, other):
    """The columns at which two lines are unlike, as pairs (first, behind) that do not touch."""
    begins = all_begins(one, other)
    found = []
    rows = zip(begins, begins[1:] + [None], told_at(one, begins), told_at(other, begins))
    for first, after, over, under in rows:
        for low, high in _unlike_parts(first, after, over, under):
            if found and found[-1][1] == low:
                found[-1] = (found[-1][0], high)
            else:
                found.append((low, high))
    return found
