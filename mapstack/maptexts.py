"""Texts of maps: maps written as texts, and read again."""

from mapstack.checks import check_text
from mapstack.codes import Alphabet
from mapstack.errors import BadAlphabet, BadMap, BadText, TooLarge
from mapstack.maps import NAME_SIGNS, NUMBER_LIMIT, Map
from mapstack.readers import LINES_LIMIT, NAMES_LIMIT, Reader

MARK_OF_KIND = {"run": ">", "point": "."}


def _chosen(alphabet):
    """The alphabet, or the standard one for None."""
    if alphabet is None:
        return Alphabet.standard()
    if not isinstance(alphabet, Alphabet):
        raise BadAlphabet(alphabet)
    return alphabet


def _check_limits(own_map):
    """Refuse a map that has no text, because of its lines, its names, or its numbers."""
    rows = list(own_map.pieces())
    if rows and rows[-1][1] >= LINES_LIMIT:
        raise TooLarge(LINES_LIMIT)
    if max(len(own_map.sources()), len(own_map.words())) > NAMES_LIMIT:
        raise TooLarge(NAMES_LIMIT)
    for piece in rows:
        if max(piece[1:3]) > NUMBER_LIMIT or (len(piece) > 3 and max(piece[4:6]) > NUMBER_LIMIT):
            raise TooLarge(NUMBER_LIMIT)


def _list_text(signs, names):
    return signs(len(names)) + "".join([signs(len(name)) + name for name in names])


def _line_texts(own_map, signs):
    """The texts of the lines of a map, up to the last one with pieces."""
    source_numbers = {name: number for number, name in enumerate(own_map.sources())}
    word_numbers = {name: number for number, name in enumerate(own_map.words())}
    place, word = (0, 0, 0), 0
    lines = [[]]
    before = -1
    for piece in own_map.pieces():
        while len(lines) <= piece[1]:
            lines.append([])
            before = -1
        text = signs(piece[2] - before - 1)
        before = piece[2]
        if piece[0] != "gap":
            new_place = (source_numbers[piece[3]], piece[4], piece[5])
            steps = [signs.signed(new - old) for new, old in zip(new_place, place)]
            text = text + MARK_OF_KIND[piece[0]] + "".join(steps)
            place = new_place
        if len(piece) > 6:
            text = text + "'" + signs.signed(word_numbers[piece[6]] - word)
            word = word_numbers[piece[6]]
        lines[-1].append(text)
    return [",".join(line) for line in lines]


def map_text(own_map, *, alphabet=None):
    """The text of a map."""
    signs = _chosen(alphabet)
    if not isinstance(own_map, Map):
        raise BadMap(own_map)
    _check_limits(own_map)
    lists = _list_text(signs, own_map.sources()) + _list_text(signs, own_map.words())
    return lists + ";".join(_line_texts(own_map, signs))


def _read(text, alphabet):
    """The segments of a text that are certain, and its first wrong index or None."""
    reader = Reader(alphabet)
    segments = []
    for place_index, sign in enumerate(text):
        if not reader.accepts(sign):
            return segments, place_index
        segments.extend(reader.take(sign))
    if not reader.can_end():
        return segments, len(text)
    return segments + reader.last_segments(), None


def read_map(text, *, alphabet=None):
    """The map of a text."""
    signs = _chosen(alphabet)
    check_text(text)
    segments, wrong = _read(text, signs)
    if wrong is not None:
        raise BadText(wrong)
    return Map.of(tuple(segments))


def segments_in(text, *, alphabet=None):
    """Yield the segments of a text of a map as they are written."""
    signs = _chosen(alphabet)
    check_text(text)
    segments, wrong = _read(text, signs)
    for segment in segments:
        yield segment
    if wrong is not None:
        raise BadText(wrong)


def first_wrong(text, *, alphabet=None):
    """The first wrong index of a text, or None if it is the text of a map."""
    signs = _chosen(alphabet)
    check_text(text)
    _, wrong = _read(text, signs)
    return wrong


def is_map_text(value):
    """Whether a value is the text of a map in the standard alphabet."""
    return isinstance(value, str) and first_wrong(value) is None


class Decoder:
    """Reads the text of a map in pieces."""

    def __init__(self, *, alphabet=None):
        self._alphabet = _chosen(alphabet)
        self._reader = Reader(self._alphabet)

    def feed(self, piece):
        """Read a further piece; the list of the segments that become certain."""
        check_text(piece)
        # A refused piece changes nothing, so it is read by a copy.
        reader = self._reader.copy()
        certain = []
        for sign in piece:
            if not reader.accepts(sign):
                raise BadText(reader.length())
            certain.extend(reader.take(sign))
        self._reader = reader
        return certain

    def finish(self):
        """End the text; the list of the last segments. The decoder is as new then."""
        if not self._reader.can_end():
            raise BadText(self._reader.length())
        certain = self._reader.last_segments()
        self._reader = Reader(self._alphabet)
        return certain

    @property
    def taken(self):
        """The length of the text up to now."""
        return self._reader.length()

    @property
    def is_complete(self):
        """Whether the text up to now is the text of a map."""
        return self._reader.can_end()

    def accepts(self, sign):
        """Whether a value is a character that can follow."""
        return isinstance(sign, str) and len(sign) == 1 and self._reader.accepts(sign)

    def follows(self):
        """All characters that can follow, in the order of ASCII."""
        signs = [self._alphabet[index] for index in range(len(self._alphabet))]
        characters = sorted(set("".join(signs) + Alphabet.MARKS + NAME_SIGNS))
        return "".join([sign for sign in characters if self._reader.accepts(sign)])

    def copy(self):
        """An independent decoder that has read the same."""
        made = Decoder(alphabet=self._alphabet)
        made._reader = self._reader.copy()
        return made
