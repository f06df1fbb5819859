"""Images: the generated positions to which an original position has come."""

from mapstack.checks import check_up_to, is_count, is_place
from mapstack.errors import BadPlace, NoPlace
from mapstack.maps import NUMBER_LIMIT, check_map, check_numbers, check_source, check_word, is_source
from mapstack.ranges import joined, leading_pieces, reached
from mapstack.stretches import word_of


def _is_range(value):
    """Whether a value is a range with a column."""
    if not isinstance(value, tuple) or len(value) != 3 or not is_place(value[:2]):
        return False
    return value[2] is None or (is_count(value[2]) and value[2] > value[1])


def joined_ranges(ranges):
    """The joined ranges of the same columns, in a tuple."""
    if not isinstance(ranges, (list, tuple)):
        raise BadPlace(None)
    for columns in ranges:
        if not _is_range(columns):
            raise BadPlace(columns)
    return joined(ranges)


def _covers(columns, column):
    """Whether a column lies in a range."""
    return columns[1] <= column and (columns[2] is None or column < columns[2])


def _place_check(source, line, column):
    check_source(source)
    check_numbers(line, column)


class Images:
    """The generated positions that a map leads to original ones."""

    def __init__(self, map_here):
        check_map(map_here)
        self._gather(leading_pieces(map_here))

    def _gather(self, leads):
        """Keep the runs and points that count, each with the column behind it, by the lines to which they lead."""
        self._leads = leads
        self._lines = {}
        for piece, after in leads:
            lines = self._lines.setdefault(piece[3], {})
            lines.setdefault(piece[4], []).append((reached(piece, after), piece, after))
        self._coverage = {}
        for source, lines in self._lines.items():
            rows = {line: [columns for columns, _, _ in lines[line]] for line in sorted(lines)}
            self._coverage[source] = {line: joined(rows[line]) for line in rows}

    def _leads_to(self, source, line, column):
        """The runs and points that lead to a position, each with the column behind it."""
        leads = self._lines.get(source, {}).get(line, [])
        return [(piece, after) for columns, piece, after in leads if _covers(columns, column)]

    def ranges_at(self, source, line, column):
        """The images of a position, however far out, as joined ranges."""
        found = []
        for piece, after in self._leads_to(source, line, column):
            if piece[0] == "point":
                found.append((piece[1], piece[2], after))
            else:
                first = piece[2] + column - piece[5]
                found.append((piece[1], first, first + 1))
        return joined(found)

    def coverage_of(self, source, line):
        """The coverage of any line."""
        return self._coverage.get(source, {}).get(line, ())

    def __call__(self, source, line, column):
        """The images of a position, as joined ranges."""
        _place_check(source, line, column)
        return self.ranges_at(source, line, column)

    def __contains__(self, x):
        """Whether a tuple of a source, a line and a column has images."""
        if not isinstance(x, tuple) or len(x) != 3 or not is_source(x[0]) or not is_place(x[1:]):
            return False
        return bool(self._leads_to(x[0], x[1], x[2]))

    def __len__(self):
        return len(self._leads)

    def coverage(self, source, line):
        """The columns of a line that have images, as joined ranges."""
        check_source(source)
        check_up_to(line, NUMBER_LIMIT)
        return self.coverage_of(source, line)

    def covered_lines(self, source):
        """Yield the lines of a source that have a coverage, with it, ascending."""
        check_source(source)
        for line, ranges in self._coverage.get(source, {}).items():
            yield line, ranges

    def words_at(self, source, line, column):
        """The words with which something leads to a position, ascending."""
        _place_check(source, line, column)
        words = {word_of(piece): True for piece, _ in self._leads_to(source, line, column)}
        return tuple(sorted([word for word in words if word is not None]))

    def neighbors(self, source, line, column):
        """The nearest covered columns of the line, in front of this one and behind it, or None."""
        _place_check(source, line, column)
        front = rear = None
        for _, first, after in self.coverage_of(source, line):
            if first < column:
                front = column - 1 if after is None else min(column, after) - 1
            if rear is None and (after is None or after > column + 1):
                rear = max(first, column + 1)
        return front, rear

    def last_place(self, source, line, column):
        """The last generated position of the images."""
        _place_check(source, line, column)
        ranges = self.ranges_at(source, line, column)
        if not ranges or ranges[-1][2] is None:
            raise NoPlace((source, line, column))
        return ranges[-1][0], ranges[-1][2] - 1


class WordImages(Images):
    """The images by the targets with one word, or without one (None), alone."""

    def __init__(self, map_here, word):
        check_map(map_here)
        check_word(word)
        self._gather([(piece, after) for piece, after in leading_pieces(map_here) if word_of(piece) == word])

    @classmethod
    def of_all(cls, map_here):
        """The images for None and for each word of a map, in a tuple."""
        made = [cls(map_here, None)]
        for word in map_here.words():
            made.append(cls(map_here, word))
        return tuple(made)
