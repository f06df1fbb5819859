"""Edits: a text in place of what stands between two positions."""

from mapstack.checks import check_count, check_span, check_text
from mapstack.texts import behind, index_of, moved, part_of, place_of


def _led(place, low, high, new_high):
    """The position of a place, if what stands from low up to high comes to end at new_high."""
    if place < low:
        return place
    if place < high:
        return None
    return moved(place, high, new_high)


def _common_front(one, other):
    """The length of the longest common beginning."""
    most = min(len(one), len(other))
    many = 0
    while many < most and one[many] == other[many]:
        many += 1
    return many


class Edit:
    """Puts a text in place of what stands from low up to high."""

    def __init__(self, low, high, fresh):
        check_span(low, high)
        check_text(fresh)
        self._low = low
        self._high = high
        self._fresh = fresh
        self._new_high = behind(low[0], low[1], fresh)

    @property
    def low(self):
        return self._low

    @property
    def high(self):
        return self._high

    @property
    def fresh(self):
        return self._fresh

    @property
    def new_high(self):
        """The position behind the text that is put in."""
        return self._new_high

    @property
    def is_idle(self):
        """Whether nothing is replaced by nothing."""
        return self._low == self._high and self._fresh == ""

    def forward(self, line, column):
        """The new position of an old one; None if it is lost."""
        check_count(line)
        check_count(column)
        return _led((line, column), self._low, self._high, self._new_high)

    def back(self, line, column):
        """The old position of a new one; None if it is fresh."""
        check_count(line)
        check_count(column)
        return _led((line, column), self._low, self._new_high, self._high)

    def __call__(self, text):
        """The new text."""
        first = index_of(text, self._low[0], self._low[1])
        after = index_of(text, self._high[0], self._high[1])
        return text[:first] + self._fresh + text[after:]

    def opposite(self, text):
        """The edit that makes this text again of what the edit makes of it."""
        return Edit(self._low, self._new_high, part_of(text, self._low, self._high))

    @classmethod
    def between(cls, old, new):
        """The change: it keeps the longest common beginning, then the longest common end."""
        check_text(old)
        check_text(new)
        front = _common_front(old, new)
        rear = _common_front(old[front:][::-1], new[front:][::-1])
        high = place_of(old, len(old) - rear)
        return cls(place_of(old, front), high, new[front:len(new) - rear])

    def __eq__(self, other):
        return (
            isinstance(other, Edit) and self._low == other._low and self._high == other._high
            and self._fresh == other._fresh
        )
