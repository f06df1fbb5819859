"""Edits in turn: one row of edits that does what two rows do one after the other."""

from mapstack.edits import Edit
from mapstack.errors import NoPlace
from mapstack.texts import behind, end_of, has_place, moved, part_of

START = (0, 0)


def new_spans(edits):
    """For each edit of a row where its text begins and ends, when all of them are made."""
    spans = []
    old_high, new_high = START, START
    for edit in edits:
        begin = moved(edit.low, old_high, new_high)
        old_high = edit.high
        new_high = behind(begin[0], begin[1], edit.fresh)
        spans.append((begin, new_high))
    return tuple(spans)


def led_along(place, spans, others):
    """Where a place stands when each of some ascending spans becomes the other one; None within a span."""
    last = None
    for index, (low, high) in enumerate(spans):
        if place < low:
            break
        if place < high:
            return None
        last = index
    if last is None:
        return place
    return moved(place, spans[last][1], others[last][1])


def _unmade(place, row):
    """The old position of a kept place, from the nearest row in front of it, if there is one."""
    if row is None:
        return place
    edit, _, end = row
    return moved(place, end, edit.high)


def _cut_at(place, row):
    """The text of a row in front of a place in it, and behind."""
    edit, begin, _ = row
    spot = moved(place, begin, START)
    if not has_place(edit.fresh, spot[0], spot[1]):
        raise NoPlace(place)
    return part_of(edit.fresh, START, spot), part_of(edit.fresh, spot, end_of(edit.fresh))


def _joined(edit, touched, before):
    """The row of one edit with all that it touches; before is the row in front, or None."""
    first = last = before
    if touched:
        first, last = touched[0], touched[-1]
    low, begin, front = edit.low, edit.low, ""
    if touched and first[1] <= edit.low:
        front, _ = _cut_at(edit.low, first)
        low, begin = first[0].low, first[1]
    else:
        low = _unmade(edit.low, before)
    high, rear = edit.high, ""
    if touched and edit.high <= last[2]:
        _, rear = _cut_at(edit.high, last)
        high = last[0].high
    else:
        high = _unmade(edit.high, last)
    made = Edit(low, high, front + edit.fresh + rear)
    return made, begin, behind(begin[0], begin[1], made.fresh)


def in_turn_edits(edits, others):
    """The row of edits that does what a row does, and then another one; NoPlace for what is refused.

    The others are taken from the last one on. So what stands behind is done with, and all that is
    in front still has its place in the text between the two.
    """
    rows = [(edit, begin, end) for edit, (begin, end) in zip(edits, new_spans(edits))]
    done = []
    for edit in others[::-1]:
        while rows and rows[-1][1] > edit.high:
            done.append(rows.pop()[0])
        touched = []
        while rows and rows[-1][2] >= edit.low:
            touched.append(rows.pop())
        row = _joined(edit, touched[::-1], rows[-1] if rows else None)
        if not row[0].is_idle:
            rows.append(row)
    return [row[0] for row in rows] + done[::-1]
