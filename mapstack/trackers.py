"""Trackers: texts that are made from one another, with their maps, while any of them is edited."""

from mapstack.checks import check_text
from mapstack.composing import composed
from mapstack.edits import Edit
from mapstack.errors import BadEdit, BadMap, BadName, NoPlace, NoText, NothingLeft
from mapstack.led import edited, edited_losses, led, led_losses
from mapstack.maps import check_map, check_numbers, check_source, plain_map
from mapstack.texts import lines_of


def _number_of(rows, name):
    """The number of the row with a name."""
    names = [row[0] for row in rows]
    if name not in names:
        raise NoText(name)
    return names.index(name)


def _named(name, losses):
    return [(name,) + columns for columns in losses]


def _changed(rows, name, edit):
    """The rows behind an edit of a text, and the losses of its map and of those behind, in a list."""
    number = _number_of(rows, name)
    if not isinstance(edit, Edit):
        raise BadEdit(None)
    _, text, own_map = rows[number]
    new_text = edit(text)
    losses = []
    if own_map is not None:
        losses.extend(_named(name, list(edited_losses(own_map, edit))))
        own_map = edited(own_map, edit)
    made = [(name, new_text, own_map)]
    for other, other_text, other_map in rows[number + 1:]:
        losses.extend(_named(other, list(led_losses(other_map, name, edit))))
        made.append((other, other_text, led(other_map, name, edit)))
    return rows[:number] + tuple(made), losses


def _check_closed(text, map_here):
    """Refuse what is no map that is closed to a text."""
    check_map(map_here)
    lines = lines_of(text)
    for line in map_here.used_lines():
        last = map_here.row_at(line)[-1]
        if line >= len(lines) or last[0] != "gap" or last[2] > len(lines[line]):
            raise BadMap(map_here)


class Tracker:
    """A row of texts with names; each one but the first has a map to those in front."""

    def __init__(self, name, text):
        check_source(name)
        check_text(text)
        # Triples of a name, a text and its map, which is None for the first one.
        self._rows = ((name, text, None),)
        # Each step with the rows in front of it, or behind it if it is undone, and the edits that it made.
        self._steps = []
        self._undone = []

    def _step(self, rows, edits):
        """Go on with other rows, so that it can be undone."""
        self._steps.append((self._rows, edits))
        self._undone = []
        self._rows = rows

    def add(self, name, text, map_here):
        """Add a text with its map behind all."""
        if name in self:
            raise BadName(name)
        check_source(name)
        check_text(text)
        _check_closed(text, map_here)
        self._step(self._rows + ((name, text, plain_map(map_here)),), ())

    def change(self, name, edit):
        """Edit a text; the losses of its map, then of those that are led."""
        rows, losses = _changed(self._rows, name, edit)
        self._step(rows, ((name, edit),))
        return tuple(losses)

    def change_all(self, rows):
        """Make the edits of pairs (name, edit) in turn, as one step; the losses of all."""
        if not isinstance(rows, tuple):
            raise BadEdit(None)
        made = self._rows
        losses = []
        for index, pair in enumerate(rows):
            if not isinstance(pair, tuple) or len(pair) != 2:
                raise BadEdit(index)
            try:
                made, more = _changed(made, pair[0], pair[1])
            except (NoText, BadEdit, NoPlace):
                raise BadEdit(index) from None
            losses.extend(more)
        self._step(made, rows)
        return tuple(losses)

    def drop_last(self):
        """Remove the last text."""
        if len(self._rows) == 1:
            raise NothingLeft()
        self._step(self._rows[:-1], ())

    def undo(self):
        """Take the last step back."""
        if not self._steps:
            raise NothingLeft()
        rows, edits = self._steps.pop()
        self._undone.append((self._rows, edits))
        self._rows = rows

    def redo(self):
        """Make the step again that was undone last."""
        if not self._undone:
            raise NothingLeft()
        rows, edits = self._undone.pop()
        self._steps.append((self._rows, edits))
        self._rows = rows

    def names(self):
        """The names of all texts, the first one in front."""
        return tuple([row[0] for row in self._rows])

    def text_of(self, name):
        return self._rows[_number_of(self._rows, name)][1]

    def map_of(self, name):
        """The map of a text; the first one has none."""
        number = _number_of(self._rows, name)
        if number == 0:
            raise NoText(name)
        return self._rows[number][2]

    def trail(self, line, column):
        """Yield a position of the last text, and those to which it leads, from text to text in front."""
        check_numbers(line, column)
        wanted = self._rows[-1][0]
        for name, _, own_map in self._rows[::-1]:
            if name == wanted:
                yield name, line, column
                target = None if own_map is None else own_map.target_at(line, column)
                if target is None:
                    return
                # What does not stand in front is not met any more.
                wanted, line, column = target[:3]

    def flat(self):
        """The last map, led through those of all texts in front, from the last one on."""
        last, between = self._rows[-1], self._rows[1:-1]
        if last[2] is None:
            raise NoText(last[0])
        levels = [{name: own_map} for name, _, own_map in between[::-1]]
        return composed(last[2], *levels)

    def __len__(self):
        return len(self._rows)

    def __contains__(self, x):
        """Whether there is a text of this name."""
        return x in self.names()

    def __eq__(self, other):
        return isinstance(other, Tracker) and self._rows == other._rows

    @classmethod
    def _begun(cls, name, text):
        return cls(name, text)

    def copy(self):
        """An independent tracker of the same class with the same steps."""
        name, text, _ = self._rows[0]
        made = self._begun(name, text)
        made._rows = self._rows
        made._steps = list(self._steps)
        made._undone = list(self._undone)
        return made


class LoggingTracker(Tracker):
    """A tracker that tells the edits that were made and not undone."""

    def __init__(self, name, text):
        Tracker.__init__(self, name, text)

    def log(self):
        """The tuple of the pairs (name, edit) that stand."""
        made = []
        for _, edits in self._steps:
            made.extend(edits)
        return tuple(made)
