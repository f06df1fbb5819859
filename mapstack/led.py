"""Edited and led maps: what becomes of a map when its generated text, or one of its sources, is edited."""

from mapstack.edits import Edit
from mapstack.errors import BadEdit
from mapstack.lines import closed_lines, cut_lines, placed_lines
from mapstack.maps import check_map, check_source, lines_of_map, map_of_lines
from mapstack.ranges import joined, leading_pieces, reached
from mapstack.stretches import told_further


def _check_edit(value):
    if not isinstance(value, Edit):
        raise BadEdit(None)


def edited(map_here, edit):
    """The map of the generated text behind an edit of it."""
    check_map(map_here)
    _check_edit(edit)
    lines = lines_of_map(map_here)
    made = closed_lines(lines, edit.low)
    moving = placed_lines(cut_lines(lines, edit.high), edit.new_high)
    for line, stretches in moving.items():
        made[line] = made.get(line, []) + stretches
    return map_of_lines(made)


def _led_told(told, edit):
    """What is told, with its target moved by an edit; None if it is lost."""
    kind, source, line, column, word = told
    place = edit.forward(line, column)
    return None if place is None else (kind, source) + place + (word,)


def _led_parts(told, width, edit):
    """The stretches, counted from its first column, of what is told on so many columns (None: no end)."""
    bys = [0]
    if told[0] == "run":
        # What a run leads to may change at the low and at the high of the edit, nowhere else.
        ends = [place[1] - told[3] for place in (edit.low, edit.high) if place[0] == told[2]]
        bys.extend([by for by in ends if by > 0 and (width is None or by < width)])
    return [(by, _led_told(told_further(told, by), edit)) for by in bys]


def _led_row(stretches, source, edit):
    """The stretches of a line whose targets in a source move with an edit of it."""
    made = []
    afters = [begin for begin, _ in stretches[1:]] + [None]
    for (begin, told), after in zip(stretches, afters):
        if told is None or told[1] != source:
            made.append((begin, told))
        else:
            width = None if after is None else after - begin
            made.extend([(begin + by, part) for by, part in _led_parts(told, width, edit)])
    return made


def led(map_here, source, edit):
    """The map whose targets in a source move with an edit of it."""
    check_map(map_here)
    check_source(source)
    _check_edit(edit)
    lines = lines_of_map(map_here)
    return map_of_lines({line: _led_row(lines[line], source, edit) for line in lines})


def _lost_part(columns, edit):
    """The part of a range that an edit takes away, or None."""
    line, first, after = columns
    low, high = edit.low, edit.high
    if not low[0] <= line <= high[0]:
        return None
    if line == low[0]:
        first = max(first, low[1])
    if line == high[0]:
        after = high[1] if after is None else min(after, high[1])
    return (line, first, after) if after is None or first < after else None


def _part_losing_target(piece, after, edit):
    """The range of the columns of a run or a point whose target an edit takes away, or None."""
    lost = _lost_part(reached(piece, after), edit)
    if lost is None:
        return None
    if piece[0] == "point":
        return piece[1], piece[2], after
    _, first, end = lost
    by = piece[2] - piece[5]
    return piece[1], first + by, None if end is None else end + by


def edited_losses(map_here, edit):
    """Yield the ranges of the positions with a target that an edit of the generated text takes away."""
    check_map(map_here)
    _check_edit(edit)
    parts = [_lost_part((piece[1], piece[2], after), edit) for piece, after in leading_pieces(map_here)]
    losses = joined([part for part in parts if part is not None])
    yield from losses


def led_losses(map_here, source, edit):
    """Yield the ranges of the positions whose target an edit of a source takes away."""
    check_map(map_here)
    check_source(source)
    _check_edit(edit)
    leads = [lead for lead in leading_pieces(map_here) if lead[0][3] == source]
    parts = [_part_losing_target(piece, after, edit) for piece, after in leads]
    losses = joined([part for part in parts if part is not None])
    yield from losses
