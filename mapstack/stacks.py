"""Stacks: a map and the levels through which its targets are led."""

from mapstack.checks import is_count
from mapstack.composing import check_level, composed, joined_levels, led_target, own_level
from mapstack.errors import NoLevel, NothingLeft
from mapstack.maps import check_map, check_numbers, check_source, is_source, plain_map


def _check_level_number(number, least, most):
    if not is_count(number) or not least <= number <= most:
        raise NoLevel(number)


class Stack:
    """A map, which is level 0, and levels from sources to maps, numbered from 1."""

    def __init__(self, first, *levels):
        check_map(first)
        for level in levels:
            check_level(level)
        # A level is never changed in here: a change puts another one in its place.
        self._levels = (plain_map(first),) + tuple([own_level(level) for level in levels])
        self._past = []

    @classmethod
    def of_maps(cls, first, *maps):
        """The stack whose levels have one map each, for every source of the map before it."""
        for own_map in (first, *maps):
            check_map(own_map)
        levels = []
        before = first
        for own_map in maps:
            levels.append({source: own_map for source in before.sources()})
            before = own_map
        return cls(first, *levels)

    def looked_at(self, line, column):
        """The target of a position, led through all levels, or None."""
        check_numbers(line, column)
        return self._led(self._levels[0].target_at(line, column), 1)

    def _led(self, target, number):
        """A target led through the levels from a number on."""
        for level in self._levels[number:]:
            target = led_target(target, level)
        return target

    def __call__(self, line, column):
        """The target of a position, or None."""
        return self.looked_at(line, column)

    def _links(self, line, column):
        """The chain of a position in a list."""
        check_numbers(line, column)
        target = self._levels[0].target_at(line, column)
        links = [(0, target)]
        for number, level in enumerate(self._levels[1:], start=1):
            if target is not None and target[0] in level:
                target = led_target(target, level)
                links.append((number, target))
        return links

    def chain(self, line, column):
        """Yield the numbers of the levels that are asked, with the target behind each."""
        links = self._links(line, column)
        for number, target in links:
            yield number, target

    def word_level(self, line, column):
        """The number of the level whose map has told the word of the target, or None."""
        links = self._links(line, column)
        target = links[-1][1]
        if target is None or target[3] is None:
            return None
        for index in reversed(range(1, len(links))):
            number, _ = links[index]
            source, from_line, from_column, _ = links[index - 1][1]
            told = self._levels[number][source].target_at(from_line, from_column)
            if told[3] is not None:
                return number
        return 0

    def from_level(self, number, source, line, column):
        """A position of a source, led as a target through the levels from a number on."""
        _check_level_number(number, 1, len(self._levels))
        check_source(source)
        check_numbers(line, column)
        return self._led((source, line, column, None), number)

    def flattened(self, first=0, last=None):
        """The map of the levels up to last, or, from a further level on, the joined levels."""
        _check_level_number(first, 0, len(self._levels))
        if last is not None:
            _check_level_number(last, max(first, 1), len(self._levels))
        levels = self._levels[first:last]
        return composed(*levels) if first == 0 else joined_levels(*levels)

    def _change(self, levels):
        """Go on with other levels, so that it can be undone."""
        self._past.append(self._levels)
        self._levels = levels

    def add_level(self, level):
        """Add a level behind all."""
        check_level(level)
        self._change(self._levels + (own_level(level),))

    def drop_level(self):
        """Remove and return the last level."""
        if len(self._levels) == 1:
            raise NothingLeft()
        return self.take_level(len(self._levels) - 1)

    def put_level(self, number, level):
        """Put a level in front of the one with this number, or behind all."""
        _check_level_number(number, 1, len(self._levels))
        check_level(level)
        self._change(self._levels[:number] + (own_level(level),) + self._levels[number:])

    def take_level(self, number):
        """Remove and return a level."""
        _check_level_number(number, 1, len(self._levels) - 1)
        taken = self._levels[number]
        self._change(self._levels[:number] + self._levels[number + 1:])
        return dict(taken)

    def set_map(self, number, source, new_map):
        """Give a level a map for a source, or none; the old one or None."""
        _check_level_number(number, 1, len(self._levels) - 1)
        check_source(source)
        if new_map is not None:
            check_map(new_map)
        level = dict(self._levels[number])
        old_map = level.get(source)
        if new_map is not None:
            level[source] = plain_map(new_map)
        elif old_map is not None:
            del level[source]
        self._change(self._levels[:number] + (level,) + self._levels[number + 1:])
        return old_map

    def undo(self):
        """Take the latest change back."""
        if not self._past:
            raise NothingLeft()
        self._levels = self._past.pop()

    def looked_with(self, level, line, column):
        """The target of a position with a level more behind all."""
        check_level(level)
        return led_target(self.looked_at(line, column), level)

    @property
    def undoable(self):
        """How many changes can be undone."""
        return len(self._past)

    def __len__(self):
        return len(self._levels)

    def __getitem__(self, at):
        """The map for 0, or a new dict like the level of this number."""
        _check_level_number(at, 0, len(self._levels) - 1)
        return dict(self._levels[at]) if at > 0 else self._levels[0]

    def __iter__(self):
        raise TypeError("a stack is not iterated over; its levels have numbers")

    def __contains__(self, x):
        """Whether some level has a map for this source."""
        return is_source(x) and any([x in level for level in self._levels[1:]])

    def __eq__(self, other):
        return isinstance(other, Stack) and self._levels == other._levels

    def twin(self):
        """An equal stack of the same class, without changes."""
        return self._of_levels(self._levels)

    @classmethod
    def _of_levels(cls, levels):
        return cls(*levels)


class NotingStack(Stack):
    """A stack that notes the positions at which it is called."""

    def __init__(self, first, *levels):
        Stack.__init__(self, first, *levels)
        self._notes = []

    def __call__(self, line, column):
        """The target of a position, or None."""
        target = self.looked_at(line, column)
        self._notes.append((line, column))
        return target

    def notes(self):
        """The tuple of the positions of all calls."""
        return tuple(self._notes)

    def forget_notes(self):
        """Note anew from here on."""
        self._notes = []
