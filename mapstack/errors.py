"""The errors of the package; each one holds what its only parameter was."""


class MapError(ValueError):
    """A value has not the form that is asked for."""


class BadPlace(MapError):
    """A value is no position, or no range, of the kind that is asked for."""

    def __init__(self, given):
        self.given = given


class BadText(MapError):
    """A value is no text (None), or a text is wrong from an index on."""

    def __init__(self, place_index):
        self.place_index = place_index


class BadSegment(MapError):
    """The value at an index is no segment, or begins where an earlier one does."""

    def __init__(self, index):
        self.index = index


class BadName(MapError):
    """A value is no name of a source, a text, a word or the like."""

    def __init__(self, given):
        self.given = given


class BadNumber(MapError):
    """A value is no integer in the limits that are asked for."""

    def __init__(self, given):
        self.given = given


class BadMap(MapError):
    """A value is no map, or no map of the kind that is asked for."""

    def __init__(self, given):
        self.given = given


class BadEdit(MapError):
    """The value at an index, or a single one (None), is no edit that can be made."""

    def __init__(self, index):
        self.index = index


class BadPart(MapError):
    """The value at an index, or a row of them (None), is no part of a bundle."""

    def __init__(self, index):
        self.index = index


class BadBuilder(MapError):
    """A value is no builder."""

    def __init__(self, given):
        self.given = given


class BadAlphabet(MapError):
    """A value is no alphabet, or not the signs of one."""

    def __init__(self, given):
        self.given = given


class BadProgram(MapError):
    """A value is no program (None), or a program is wrong at a spot."""

    def __init__(self, spot):
        self.spot = spot


class StackError(RuntimeError):
    """A call does not fit to what stands now."""


class NothingLeft(StackError):
    """There is nothing that could be taken away or back."""


class Clash(StackError):
    """Two patches have edits that meet."""

    def __init__(self, given):
        self.given = given


class Stale(StackError):
    """A text is not the one that was dated."""

    def __init__(self, spot):
        self.spot = spot


class Ring(StackError):
    """A text names itself, directly or by others."""

    def __init__(self, path):
        self.path = path


class BoundError(OverflowError):
    """Something is greater than a limit."""


class TooLarge(BoundError):
    """There would be more than the limit."""

    def __init__(self, limit):
        self.limit = limit


class AbsentError(LookupError):
    """Something that is asked for is not there."""


class NoText(AbsentError):
    """There is no text of this name."""

    def __init__(self, given):
        self.given = given


class NoPlace(AbsentError):
    """There is no such position, line, number or mark."""

    def __init__(self, given):
        self.given = given


class NoLevel(AbsentError):
    """There is no level of this number."""

    def __init__(self, given):
        self.given = given
