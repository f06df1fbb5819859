"""Traces: the positions to which a program comes, as frames and step by step."""

from mapstack.breakpoints import Breakpoints
from mapstack.checks import check_up_to
from mapstack.errors import BadName, BadPlace
from mapstack.maps import NUMBER_LIMIT, check_map, check_numbers, is_position

WAYS = ("into", "over", "out")
RUN = "run"


def frames_of(map_here, trace, *, keep=False):
    """The targets of the positions of a trace, and with keep also the positions without one."""
    check_map(map_here)
    if not isinstance(trace, (list, tuple)):
        raise BadPlace(None)
    for place in trace:
        if not is_position(place):
            raise BadPlace(place)
    frames = []
    before = None
    for line, column in trace:
        target = map_here.target_at(line, column)
        if target is not None:
            if target[:2] != before:
                frames.append(target)
            before = target[:2]
        elif keep:
            frames.append((line, column))
            before = None
    return tuple(frames)


def _frame_text(frame):
    if len(frame) == 2:
        return f"?:{frame[0] + 1}:{frame[1] + 1}"
    source, line, column, word = frame
    place = f"{source}:{line + 1}:{column + 1}"
    return place if word is None else f"{place} in {word}"


def trace_text(frames):
    """A line for each frame, in which lines and columns count from 1."""
    return "\n".join([_frame_text(frame) for frame in frames])


class Stepper:
    """Tells of the positions to which a program comes where it stops."""

    def __init__(self, map_here):
        check_map(map_here)
        self._map = map_here
        self._chosen = WAYS[0]
        self._base_depth = 0
        self._many_stops = 0
        self._last = None

    @property
    def way(self):
        """How far the program goes on: "into", "over" or "out"."""
        return self._chosen

    @property
    def base(self):
        """The depth of the latest stop."""
        return self._base_depth

    @property
    def stops(self):
        """The number of stops."""
        return self._many_stops

    def _choose(self, way, ways):
        if not isinstance(way, str) or way not in ways:
            raise BadName(way)
        self._chosen = way

    def set_way(self, way):
        self._choose(way, WAYS)

    def _allows(self, depth):
        """Whether the way allows to stop at a depth on another line."""
        if self._chosen == "over":
            return depth <= self._base_depth
        return self._chosen == "into" or depth < self._base_depth

    def _told(self, line, column, depth):
        """Check where a program comes to, and remember it; the target, and whether it is on another line."""
        check_numbers(line, column)
        check_up_to(depth, NUMBER_LIMIT)
        target = self._map.target_at(line, column)
        if target is None:
            return None, False
        is_new = target[:2] != self._last
        self._last = target[:2]
        return target, is_new

    def _stopped(self, target, depth):
        """Count a stop; the target."""
        self._base_depth = depth
        self._many_stops += 1
        return target

    def step(self, line, column, depth=0):
        """The target of a position to which the program comes, if it stops there, or None."""
        target, is_new = self._told(line, column, depth)
        if is_new and self._allows(depth):
            return self._stopped(target, depth)
        return None

    def _take_over(self, other):
        """Go on from where another stepper is."""
        self._chosen = other._chosen
        self._base_depth = other._base_depth
        self._many_stops = other._many_stops
        self._last = other._last

    def copy(self):
        """An independent stepper that has been told the same."""
        made = Stepper(self._map)
        made._take_over(self)
        return made


class BreakStepper(Stepper):
    """A stepper that can also run up to the next breakpoint."""

    def __init__(self, map_here, breakpoints):
        Stepper.__init__(self, map_here)
        if not isinstance(breakpoints, Breakpoints):
            raise BadPlace(breakpoints)
        # A copy, because the caller goes on with its own ones.
        self._breakpoints = breakpoints.copy()

    def set_way(self, way):
        """Choose a way; "run" stops at breakpoints alone."""
        self._choose(way, WAYS + (RUN,))

    def step(self, line, column, depth=0):
        """The target of a position to which the program comes, if it stops there, or None."""
        target, is_new = self._told(line, column, depth)
        if target is None:
            return None
        if self._chosen == RUN:
            stops_here = bool(self._breakpoints.hits(line, column))
        else:
            stops_here = is_new and self._allows(depth)
        return self._stopped(target, depth) if stops_here else None

    def copy(self):
        """An independent stepper with the same breakpoints that has been told the same."""
        made = BreakStepper(self._map, self._breakpoints)
        made._take_over(self)
        return made
