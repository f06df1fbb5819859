"""Composing: maps led through levels, which are dicts from sources to maps."""

from mapstack.errors import BadMap, TooLarge
from mapstack.maps import PIECE_LIMIT, check_map, check_source, map_of_lines, map_of_rows, plain_map
from mapstack.ranges import joined, leading_pieces, reached
from mapstack.stretches import closed_at, piece_index, piece_tuples, stretches_of, told_further, told_of

# A line that is longer while it is led is brought to its fewest pieces, so that it stays short.
LONG_LINE = 40000


def check_level(level):
    """Refuse what is no dict from sources to maps."""
    if not isinstance(level, dict):
        raise BadMap(level)
    for source, own_map in level.items():
        check_source(source)
        check_map(own_map)


def own_level(level):
    """A copy of a level, without closed maps."""
    return {source: plain_map(own_map) for source, own_map in level.items()}


def led_target(target, level):
    """A target led through a level, or None."""
    if target is None or target[0] not in level:
        return target
    told = level[target[0]].target_at(target[1], target[2])
    if told is None or told[3] is not None:
        return told
    return told[:3] + target[3:]


def _window(row, first, after):
    """The stretches of a line from a column on, counted from there, and in front of another one."""
    found = [(0, None)]
    for index in range(max(piece_index(row, first), 0), len(row)):
        begin = row[index][2]
        if after is not None and begin >= after:
            break
        if begin <= first:
            found = [(0, told_further(told_of(row[index]), first - begin))]
        else:
            found.append((begin - first, told_of(row[index])))
    return found


def _worded_further(told, word):
    """What is told, with the word of what was led if it has none."""
    if told is None or told[4] is not None:
        return told
    return told[:4] + (word,)


def _led_stretch(told, width, level):
    """The stretches, counted from its first column, of what is told on so many columns (None: no end)."""
    if told is None or told[1] not in level:
        return [(0, told)]
    kind, source, line, column, word = told
    if kind == "point":
        target = led_target(told[1:], level)
        return [(0, None if target is None else ("point",) + target)]
    window = _window(level[source].row_at(line), column, None if width is None else column + width)
    return [(by, _worded_further(inner, word)) for by, inner in window]


def _shortened(stretches, after):
    """The same stretches in front of a column, as few as possible."""
    row = stretches_of(piece_tuples(0, closed_at(stretches, after)))
    few = [(begin, told) for begin, told in row if begin < after]
    if len(few) > PIECE_LIMIT:
        raise TooLarge(PIECE_LIMIT)
    return few


def _led_row(row, level):
    """The stretches of a line of pieces, led through a level."""
    led = []
    afters = [piece[2] for piece in row[1:]] + [None]
    for piece, after in zip(row, afters):
        begin = piece[2]
        width = None if after is None else after - begin
        led.extend([(begin + by, told) for by, told in _led_stretch(told_of(piece), width, level)])
        if after is not None and len(led) > LONG_LINE:
            led = _shortened(led, after)
    return led


def _led_map(outer, level):
    """The map through a level."""
    rows = {}
    many = 0
    for line in outer.used_lines():
        row = piece_tuples(line, _led_row(outer.row_at(line), level))
        many += len(row)
        # Told at once, because a map of many lines could grow far beyond the limit.
        if many > PIECE_LIMIT:
            raise TooLarge(PIECE_LIMIT)
        if row:
            rows[line] = row
    return map_of_rows(rows)


def through(outer, level):
    """The map whose targets are led through a level."""
    return composed(outer, level)


def composed(outer, *levels):
    """The map through the first level, then through the second one, and so on."""
    check_map(outer)
    for level in levels:
        check_level(level)
    made = plain_map(outer)
    for level in levels:
        made = _led_map(made, level)
    return made


def _joined_pair(one, other):
    """The level that does what one does, and then the other one."""
    made = {source: _led_map(own_map, other) for source, own_map in one.items()}
    for source, own_map in other.items():
        if source not in made:
            made[source] = plain_map(own_map)
    return made


def joined_levels(*levels):
    """The level that does what all levels do, one after the other."""
    for level in levels:
        check_level(level)
    made = {}
    for level in levels:
        made = _joined_pair(made, level)
    return made


def _lines_at(own_map, ranges):
    """The stretches of the lines of a map at joined ranges; elsewhere they tell nothing."""
    lines = {}
    for line, first, after in ranges:
        row = own_map.row_at(line)
        if row:
            kept = lines.setdefault(line, [])
            kept.extend([(first + by, told) for by, told in _window(row, first, after)])
            if after is not None:
                kept.append((after, None))
    return lines


def shaken(outer, level):
    """The level without what the map does not reach."""
    check_map(outer)
    check_level(level)
    found = {}
    for piece, after in leading_pieces(outer):
        found.setdefault(piece[3], []).append(reached(piece, after))
    made = {}
    for source, own_map in level.items():
        if source in found:
            made[source] = map_of_lines(_lines_at(own_map, joined(found[source])))
    return made


def _line_cuts(row, level):
    """The columns of the cuts on a line of pieces, ascending."""
    columns = []
    afters = [piece[2] for piece in row[1:]] + [None]
    for piece, after in zip(row, afters):
        columns.append(piece[2])
        if piece[0] == "run" and piece[3] in level:
            line, first, end = reached(piece, after)
            window = _window(level[piece[3]].row_at(line), first, end)
            columns.extend([piece[2] + by for by, _ in window if by > 0])
    return columns


def cuts(outer, level):
    """Yield the positions at which a piece begins, or a run leads to the beginning of one, ascending."""
    check_map(outer)
    check_level(level)
    # The caller may change the level while the cuts are still asked for.
    own = own_level(level)
    for line in outer.used_lines():
        for column in _line_cuts(outer.row_at(line), own):
            yield line, column
