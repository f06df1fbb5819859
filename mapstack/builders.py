"""Builders: texts that are made piece by piece, with their maps."""

from mapstack.checks import check_text, check_up_to
from mapstack.drafts import Draft
from mapstack.errors import BadBuilder, BadPlace, NoPlace, NothingLeft
from mapstack.maps import check_source, check_word, is_position, map_of_lines, pieces_of_lines

SPACES_LIMIT = 100


def _check_lead(text, source, line, column, word):
    """Refuse what is no text, or no position of a source with a word."""
    check_text(text)
    check_source(source)
    if not is_position((line, column)):
        raise BadPlace((line, column))
    check_word(word)


class Builder:
    """Makes a text of pieces, and the map that tells from where each piece comes."""

    def __init__(self):
        self._draft = Draft()

    def plain(self, text):
        """Add a text that comes from nowhere; the position of its first character."""
        check_text(text)
        return self._draft.put_text(text, None)

    def copied(self, text, source, line, column, *, word=None):
        """Add a text that stands at a position of a source; the position of its first character."""
        _check_lead(text, source, line, column, word)
        return self._draft.put_text(text, ("run", source, line, column, word))

    def pointed(self, text, source, line, column, *, word=None):
        """Add a text that comes from one position as a whole; the position of its first character."""
        _check_lead(text, source, line, column, word)
        return self._draft.put_text(text, ("point", source, line, column, word))

    def __call__(self, text):
        """Add a text that comes from nowhere; the builder."""
        self.plain(text)
        return self

    def deeper(self, spaces=2):
        """Add a level of indentation."""
        check_up_to(spaces, SPACES_LIMIT)
        self._draft.set_indents(self._draft.indents + (spaces,))

    def flatter(self):
        """Take the last level of indentation away."""
        if not self._draft.indents:
            raise NothingLeft()
        self._draft.set_indents(self._draft.indents[:-1])

    def added(self, other):
        """Put the text of a builder behind."""
        if not isinstance(other, Builder):
            raise BadBuilder(other)
        self._draft.put_pieces(other._draft.all_pieces())

    def whole_text(self):
        """The text up to now."""
        return self._draft.text

    def whole_map(self):
        """The map of the text."""
        return map_of_lines(self._draft.stretch_lines())

    def _all_pieces(self):
        """The pieces of all lines, also if they are too many for a Map."""
        return pieces_of_lines(self._draft.stretch_lines())

    def as_part(self):
        """The text and its map in a tuple."""
        return self.whole_text(), self.whole_map()

    @property
    def levels(self):
        """The spaces of all levels of indentation, in a tuple."""
        return self._draft.indents

    def __len__(self):
        return len(self._draft.text)

    def __bool__(self):
        """Whether there are characters."""
        return bool(self._draft.text)

    def step_count(self):
        """How many steps can be undone."""
        return self._draft.step_count()

    def undo(self):
        """Take the last step back."""
        if self._draft.step_count() == 0:
            raise NothingLeft()
        self._draft.step_back()

    def copy(self):
        """An independent builder of the same class, with the same steps."""
        made = self._new()
        made._draft = self._draft.copy()
        return made

    @classmethod
    def _new(cls):
        return cls()

    def __eq__(self, other):
        if not isinstance(other, Builder) or self.whole_text() != other.whole_text():
            return False
        return self.levels == other.levels and self._all_pieces() == other._all_pieces()


class MarkedBuilder(Builder):
    """A builder whose positions can have names, at which others are put in."""

    def __init__(self):
        Builder.__init__(self)

    def mark(self, name):
        """Mark the end of the text."""
        check_source(name)
        others = tuple([spot for spot in self._draft.spots if spot[0] != name])
        self._draft.set_spots(others + ((name, len(self)),))

    def _number_of(self, name):
        """The number of a mark, in the order in which they were made."""
        names = self.marks()
        if not isinstance(name, str) or name not in names:
            raise NoPlace(name)
        return names.index(name)

    def place_of(self, name):
        """The position of a mark."""
        spot = self._draft.spots[self._number_of(name)]
        return self._draft.place_at(spot[1])

    def marks(self):
        """The names of all marks, as they were made."""
        return tuple([name for name, _ in self._draft.spots])

    def put_in(self, name, other):
        """Put the text of a builder in at a mark, which moves behind it."""
        at = self._number_of(name)
        if not isinstance(other, Builder):
            raise BadBuilder(other)
        index = self._draft.spots[at][1]
        spots = []
        for number, (spot, place) in enumerate(self._draft.spots):
            is_moved = place > index or (place == index and number >= at)
            spots.append((spot, place + len(other) if is_moved else place))
        self._draft.put_between(index, other._draft.all_pieces(), tuple(spots))
