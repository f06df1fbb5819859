"""Maps: where the positions of a generated text come from."""

from mapstack.checks import check_up_to, is_up_to
from mapstack.errors import BadMap, BadName, BadNumber, BadSegment, NoPlace, TooLarge
from mapstack.stretches import (
    closed_at, overlaid, piece_index, piece_tuples, stretches_of, told_named, told_worded, unlike_parts,
    word_of,
)

NAME_SIGNS = "ABCDEFGHIJKLMNOPQRSTUVWXYZabcdefghijklmnopqrstuvwxyz0123456789_-./"
NAME_LIMIT = 40
NUMBER_LIMIT = 10 ** 9
PIECE_LIMIT = 10000


def is_source(value):
    """Whether a value can be the name of a source, or a word."""
    if not isinstance(value, str) or not 1 <= len(value) <= NAME_LIMIT:
        return False
    return all([sign in NAME_SIGNS for sign in value])


def is_position(value):
    """Whether a value is a position with numbers up to the limit."""
    return _are_numbers(value, 2, NUMBER_LIMIT)


def is_segment(value):
    """Whether a value is a segment with numbers up to the limit."""
    return _is_segment(value, NUMBER_LIMIT)


def is_target(value):
    """Whether a value is a target; its numbers have no bound."""
    if not isinstance(value, tuple) or len(value) != 4:
        return False
    return is_source(value[0]) and _are_numbers(value[1:3], 2, None) and (value[3] is None or is_source(value[3]))


def _are_numbers(value, many, limit):
    """Whether a value is a tuple of so many integers from 0 to a limit."""
    if not isinstance(value, tuple) or len(value) != many:
        return False
    return all([is_up_to(number, limit) for number in value])


def _is_segment(value, limit):
    if not isinstance(value, tuple) or len(value) not in (3, 6, 7) or not isinstance(value[0], str):
        return False
    if not _are_numbers(value[1:3], 2, limit):
        return False
    if len(value) == 3:
        return value[0] == "gap"
    leads = is_source(value[3]) and _are_numbers(value[4:6], 2, limit)
    return value[0] in ("run", "point") and leads and (len(value) == 6 or is_source(value[6]))


def _check_segments(segments, limit):
    """Refuse the first value that is no segment, then the first that begins where an earlier one does."""
    for index, segment in enumerate(segments):
        if not _is_segment(segment, limit):
            raise BadSegment(index)
    begins = {}
    for index, segment in enumerate(segments):
        if segment[1:3] in begins:
            raise BadSegment(index)
        begins[segment[1:3]] = True


def check_map(value):
    if not isinstance(value, Map):
        raise BadMap(value)


def check_source(value):
    if not is_source(value):
        raise BadName(value)


def check_word(value):
    """Refuse what is neither None nor a word."""
    if value is not None:
        check_source(value)


def check_numbers(line, column):
    check_up_to(line, NUMBER_LIMIT)
    check_up_to(column, NUMBER_LIMIT)


def _check_names(names):
    for name in names:
        check_source(name)


def _check_lengths(lengths):
    if not isinstance(lengths, tuple):
        raise BadNumber(lengths)
    for length in lengths:
        check_up_to(length, NUMBER_LIMIT)


def _begin_of(segment):
    return segment[1], segment[2]


def _lines_of_segments(segments):
    """The stretches of each line that has segments."""
    rows = {}
    for segment in sorted(segments, key=_begin_of):
        rows.setdefault(segment[1], []).append(segment)
    return {line: stretches_of(rows[line]) for line in rows}


def pieces_of_lines(lines):
    """The pieces of each line that has some, by ascending lines, from the stretches of lines."""
    rows = {line: piece_tuples(line, lines[line]) for line in sorted(lines)}
    return {line: rows[line] for line in rows if rows[line]}


def _all_pieces(rows):
    """The pieces of all lines in one tuple."""
    every = []
    for line in rows:
        every.extend(rows[line])
        if len(every) > PIECE_LIMIT:
            raise TooLarge(PIECE_LIMIT)
    return tuple(every)


def map_of_rows(rows):
    """The Map of the pieces of each line that has some, by ascending lines, in a dict."""
    made = Map()
    made._rows = rows
    made._pieces = _all_pieces(rows)
    return made


def map_of_lines(lines):
    """The Map of the stretches of some lines, in a dict."""
    return map_of_rows(pieces_of_lines(lines))


def plain_map(own_map):
    """The map itself, or the Map that a closed one equals."""
    if isinstance(own_map, ClosedMap):
        return map_of_rows(own_map._rows)
    return own_map


def lines_of_map(own_map):
    """The stretches of each line of a map that has pieces, in a dict."""
    return {line: stretches_of(own_map._rows[line]) for line in own_map._rows}


def _distinct(names):
    """The different names, in the order in which they come first."""
    return tuple({name: True for name in names})


class Map:
    """A function from the positions of a generated text to targets, made of segments."""

    def __init__(self, *segments):
        _check_segments(segments, NUMBER_LIMIT)
        self._rows = pieces_of_lines(_lines_of_segments(segments))
        self._pieces = _all_pieces(self._rows)

    @classmethod
    def of(cls, segments):
        """The map of the segments of a tuple."""
        if not isinstance(segments, tuple):
            raise BadSegment(None)
        return Map(*segments)

    @classmethod
    def unbounded(cls, segments):
        """The map of the segments of a tuple, whose numbers may be greater than the limit."""
        if not isinstance(segments, tuple):
            raise BadSegment(None)
        _check_segments(segments, None)
        return map_of_lines(_lines_of_segments(segments))

    @classmethod
    def identity(cls, source, lengths):
        """The map of a text with lines of these lengths to itself."""
        check_source(source)
        _check_lengths(lengths)
        lines = {}
        for line, length in enumerate(lengths):
            if length > 0:
                lines[line] = [(0, ("run", source, line, 0, None)), (length, None)]
        return map_of_lines(lines)

    @classmethod
    def onto(cls, source, count):
        """The map of so many lines without end to the same lines of a source."""
        check_source(source)
        check_up_to(count, NUMBER_LIMIT)
        if count > PIECE_LIMIT:
            raise TooLarge(PIECE_LIMIT)
        return map_of_lines({line: [(0, ("run", source, line, 0, None))] for line in range(count)})

    @staticmethod
    def least(*segments):
        """The number of pieces of the map of some segments."""
        _check_segments(segments, NUMBER_LIMIT)
        rows = pieces_of_lines(_lines_of_segments(segments))
        return sum([len(rows[line]) for line in rows])

    def target_at(self, line, column):
        """The target of any position, or None."""
        row = self.row_at(line)
        index = piece_index(row, column)
        if index < 0 or row[index][0] == "gap":
            return None
        piece = row[index]
        by = column - piece[2] if piece[0] == "run" else 0
        return piece[3], piece[4], piece[5] + by, word_of(piece)

    def row_at(self, line):
        """The tuple of the pieces of any line."""
        return self._rows.get(line, ())

    def __call__(self, line, column):
        """The target of a position, or None."""
        check_numbers(line, column)
        return self.target_at(line, column)

    def __getitem__(self, at):
        """The tuple of the pieces of a line."""
        check_up_to(at, NUMBER_LIMIT)
        return self.row_at(at)

    def __iter__(self):
        raise TypeError("a map is not iterated over; pieces() yields its pieces")

    def __len__(self):
        return len(self._pieces)

    def __bool__(self):
        return bool(self._pieces)

    def __contains__(self, x):
        """Whether some target is in this source."""
        return x in self.sources()

    def __eq__(self, other):
        return isinstance(other, Map) and self._pieces == other._pieces

    def __or__(self, other):
        """The map that tells what this one tells, and elsewhere what the other one tells."""
        if not isinstance(other, Map):
            return NotImplemented
        lines = {}
        for line in sorted(set(self._rows) | set(other._rows)):
            lines[line] = overlaid(stretches_of(self.row_at(line)), stretches_of(other.row_at(line)))
        return map_of_lines(lines)

    def pieces(self):
        """Yield all pieces, by lines."""
        yield from self._pieces

    def used_lines(self):
        """Yield the lines with pieces."""
        yield from self._rows

    def sources(self):
        """All sources, in the order of their first piece."""
        return _distinct([piece[3] for piece in self._pieces if len(piece) > 3])

    def words(self):
        """All words, in the order of their first piece."""
        return _distinct([piece[6] for piece in self._pieces if len(piece) > 6])

    def closed(self, lengths):
        """The map that is closed to a row of lengths."""
        _check_lengths(lengths)
        lines = {}
        for line, length in enumerate(lengths):
            if line in self._rows:
                lines[line] = closed_at(stretches_of(self._rows[line]), length)
        return map_of_lines(lines)

    def placed(self, line, column):
        """The map whose position (0, 0) stands at this place."""
        check_numbers(line, column)
        lines = {}
        for own_line in self._rows:
            by = column if own_line == 0 else 0
            row = stretches_of(self._rows[own_line])
            lines[own_line + line] = [(begin + by, told) for begin, told in row]
        return map_of_lines(lines)

    def unlike(self, other):
        """Yield the ranges of the positions at which two maps tell different targets."""
        check_map(other)
        for line in sorted(set(self._rows) | set(other._rows)):
            for first, after in unlike_parts(stretches_of(self.row_at(line)), stretches_of(other.row_at(line))):
                yield line, first, after

    def first_unlike(self, other):
        """The first position at which two maps tell different targets, or None."""
        for line, first, _ in self.unlike(other):
            return line, first
        return None

    def _led_by(self, names):
        """The map whose sources have their new names in a dict; the others are lost."""
        lines = {}
        for line in self._rows:
            row = stretches_of(self._rows[line])
            lines[line] = [(begin, told_named(told, names)) for begin, told in row]
        return map_of_lines(lines)

    def only(self, *sources):
        """The map with the targets in these sources."""
        _check_names(sources)
        return self._led_by({source: source for source in sources})

    def without(self, *sources):
        """The map with the targets in all other sources."""
        _check_names(sources)
        return self._led_by({source: source for source in self.sources() if source not in sources})

    def renamed(self, names):
        """The map whose sources that are keys of a dict have the new names."""
        if not isinstance(names, dict):
            raise BadName(names)
        for name in names:
            _check_names((name, names[name]))
        return self._led_by({source: names.get(source, source) for source in self.sources()})

    def worded(self, word=None):
        """The map whose targets all have this word, or none."""
        check_word(word)
        lines = {}
        for line in self._rows:
            lines[line] = [(begin, told_worded(told, word)) for begin, told in stretches_of(self._rows[line])]
        return map_of_lines(lines)


class ClosedMap(Map):
    """A map that is closed to the lengths of the lines of a text, beyond which it is not called."""

    def __init__(self, lengths, segments=()):
        _check_lengths(lengths)
        shut = Map.of(segments).closed(lengths)
        self._lengths = lengths
        self._rows = shut._rows
        self._pieces = shut._pieces

    @property
    def lengths(self):
        return self._lengths

    def __call__(self, line, column):
        """The target of a position of the text, or None."""
        check_numbers(line, column)
        if line >= len(self._lengths) or column > self._lengths[line]:
            raise NoPlace((line, column))
        return self.target_at(line, column)

    def __getitem__(self, at):
        """The tuple of the pieces of a line of the text."""
        check_up_to(at, NUMBER_LIMIT)
        if at >= len(self._lengths):
            raise NoPlace(at)
        return self.row_at(at)

    def share(self):
        """The pair of the number of columns with a target, and of all columns of the text."""
        many = 0
        for line in self._rows:
            # Behind the last target of a line is a gap, because the map is closed.
            row = self._rows[line]
            widths = [after[2] - piece[2] for piece, after in zip(row, row[1:]) if piece[0] != "gap"]
            many = many + sum(widths)
        return many, sum(self._lengths)

    def grown(self, *lengths):
        """The map of the text with further lines, which tell nothing."""
        made = ClosedMap(self._lengths + lengths)
        made._rows = self._rows
        made._pieces = self._pieces
        return made
