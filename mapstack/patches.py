"""Patches: rows of edits of one text that are made at once."""

from mapstack.checks import check_count, check_text, is_up_to
from mapstack.edits import Edit
from mapstack.errors import BadEdit, BadNumber, Clash, NoPlace, TooLarge
from mapstack.texts import end_of, index_of, part_of, rows_of
from mapstack.turns import in_turn_edits, led_along, new_spans

ROW_LIMIT = 300


def _common_counts(old, new):
    """A table: how many rows can be kept from a row of old and a row of new on."""
    counts = [[0] * (len(new) + 1) for _ in range(len(old) + 1)]
    for i in reversed(range(len(old))):
        for j in reversed(range(len(new))):
            if old[i] == new[j]:
                counts[i][j] = counts[i + 1][j + 1] + 1
            else:
                counts[i][j] = max(counts[i + 1][j], counts[i][j + 1])
    return counts


def _kept_rows(old, new):
    """The pairs of the indexes of rows that are kept, as many as possible."""
    counts = _common_counts(old, new)
    pairs = []
    i = j = 0
    while i < len(old) and j < len(new):
        if old[i] == new[j]:
            pairs.append((i, j))
            i, j = i + 1, j + 1
        elif counts[i + 1][j] == counts[i][j]:
            i += 1
        else:
            j += 1
    return pairs


def _low_of(edit):
    return edit.low


def _first_clash(edits, others):
    """The low of the first edit that meets one of the others, or None."""
    at = 0
    for edit in edits:
        while at < len(others) and others[at].high < edit.low:
            at += 1
        if at < len(others) and others[at].low <= edit.high:
            return edit.low
    return None


class Patch:
    """Edits of one text that are ascending and apart."""

    def __init__(self, *edits):
        before = None
        for index, edit in enumerate(edits):
            if not isinstance(edit, Edit) or edit.is_idle:
                raise BadEdit(index)
            if before is not None and edit.low <= before.high:
                raise BadEdit(index)
            before = edit
        self._edits = edits
        self._old_spans = tuple([(edit.low, edit.high) for edit in edits])
        self._new_spans = new_spans(edits)

    @classmethod
    def in_turn(cls, *edits):
        """The patch of edits, each of the text that the ones before made."""
        made = []
        for index, edit in enumerate(edits):
            if not isinstance(edit, Edit):
                raise BadEdit(index)
            try:
                made = in_turn_edits(made, [edit])
            except NoPlace:
                raise BadEdit(index) from None
        return cls(*made)

    @classmethod
    def of_lines(cls, old, new):
        """A patch that keeps as many rows as possible, and replaces those between them."""
        check_text(old)
        check_text(new)
        old_rows, new_rows = rows_of(old), rows_of(new)
        if max(len(old_rows), len(new_rows)) > ROW_LIMIT:
            raise TooLarge(ROW_LIMIT)
        begins = [(line, 0) for line in range(len(old_rows))] + [end_of(old)]
        edits = []
        first = new_first = 0
        for i, j in _kept_rows(old_rows, new_rows) + [(len(old_rows), len(new_rows))]:
            if first < i or new_first < j:
                edits.append(Edit(begins[first], begins[i], "".join(new_rows[new_first:j])))
            first, new_first = i + 1, j + 1
        return cls(*edits)

    def __getitem__(self, at):
        if not is_up_to(at, len(self._edits) - 1):
            raise BadNumber(at)
        return self._edits[at]

    def __iter__(self):
        raise TypeError("a patch is not iterated over; each() yields its edits")

    def __len__(self):
        return len(self._edits)

    def each(self):
        """Yield the edits."""
        yield from self._edits

    def forward(self, line, column):
        """The new position of an old one; None if it is lost."""
        check_count(line)
        check_count(column)
        return led_along((line, column), self._old_spans, self._new_spans)

    def back(self, line, column):
        """The old position of a new one; None if it is fresh."""
        check_count(line)
        check_count(column)
        return led_along((line, column), self._new_spans, self._old_spans)

    def __call__(self, text):
        """The new text."""
        check_text(text)
        kept_from = 0
        out = []
        for edit in self._edits:
            low, high = edit.low, edit.high
            out.append(text[kept_from:index_of(text, low[0], low[1])] + edit.fresh)
            kept_from = index_of(text, high[0], high[1])
        return "".join(out) + text[kept_from:]

    def opposite(self, text):
        """The patch that makes this text again of what the patch makes of it."""
        check_text(text)
        parts = [part_of(text, low, high) for low, high in self._old_spans]
        edits = [Edit(begin, end, part) for (begin, end), part in zip(self._new_spans, parts)]
        return Patch(*edits)

    def __eq__(self, other):
        return isinstance(other, Patch) and self._edits == other._edits

    def __add__(self, other):
        """The patch of both in turn, where the other is one of the text that this one makes."""
        if not isinstance(other, Patch):
            raise BadEdit(None)
        edits = in_turn_edits(self._edits, other._edits)
        return Patch(*edits)

    def _check_apart(self, other):
        """Refuse what is no patch, and one that clashes with this one."""
        if not isinstance(other, Patch):
            raise BadEdit(None)
        low = _first_clash(self._edits, other._edits)
        if low is not None:
            raise Clash(low)

    def merged(self, other):
        """The patch with the edits of both."""
        self._check_apart(other)
        edits = sorted(self._edits + other._edits, key=_low_of)
        return Patch(*edits)

    def led(self, other):
        """The other patch of the same text, led along this one."""
        self._check_apart(other)
        edits = []
        for edit in other._edits:
            low = led_along(edit.low, self._old_spans, self._new_spans)
            high = led_along(edit.high, self._old_spans, self._new_spans)
            edits.append(Edit(low, high, edit.fresh))
        return Patch(*edits)
