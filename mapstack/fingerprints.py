"""Fingerprints of texts, by which lines that have changed are found, and maps that are dated by them."""

from mapstack.checks import check_text, is_up_to
from mapstack.edits import Edit
from mapstack.errors import BadName, BadNumber, BadText, NoText, Stale
from mapstack.led import edited, led
from mapstack.maps import Map, check_map, is_source, plain_map
from mapstack.texts import lines_of

MODULUS = 99999989
# The generated text has no name, so it stands beside the sources under this one.
OWN = ""


def checksum(signs):
    """The sum of the codes of some characters, each times its number from 1, modulo a prime."""
    check_text(signs)
    if "\n" in signs:
        raise BadText(None)
    return sum([(index + 1) * ord(sign) for index, sign in enumerate(signs)]) % MODULUS


class Fingerprint:
    """The length and the checksum of each line of a text."""

    def __init__(self, text):
        self._numbers = tuple([(len(line), checksum(line)) for line in lines_of(text)])

    @property
    def lengths(self):
        return tuple([length for length, _ in self._numbers])

    @property
    def checksums(self):
        return tuple([told for _, told in self._numbers])

    def first_stale(self, text):
        """The first line of another text that differs, or that only one of both has; None if it is fresh."""
        numbers = Fingerprint(text)._numbers
        for line, (own, other) in enumerate(zip(self._numbers, numbers)):
            if own != other:
                return line
        if len(self._numbers) == len(numbers):
            return None
        return min(len(self._numbers), len(numbers))

    def __len__(self):
        return len(self._numbers)

    def __getitem__(self, at):
        """The length and the checksum of a line."""
        if not is_up_to(at, len(self._numbers) - 1):
            raise BadNumber(at)
        return self._numbers[at]

    def __iter__(self):
        raise TypeError("a fingerprint is not iterated over; its lines have numbers")

    def __eq__(self, other):
        return isinstance(other, Fingerprint) and self._numbers == other._numbers


def _check_texts(texts):
    """Refuse what is no dict from source names to texts."""
    if not isinstance(texts, dict):
        raise BadName(texts)
    for name, text in texts.items():
        if not is_source(name) or not isinstance(text, str):
            raise BadName(texts)


class Dated:
    """A map with the fingerprints of its generated text and of the texts of its sources."""

    def __init__(self, map_here, text, texts):
        check_map(map_here)
        check_text(text)
        _check_texts(texts)
        self._map = plain_map(map_here)
        self._prints = {name: Fingerprint(texts[name]) for name in sorted(texts)}
        self._prints[OWN] = Fingerprint(text)

    def own_map(self):
        return self._map

    def stale(self, text, texts):
        """The pairs of a name and its first stale line, for the generated text and the sources in a dict."""
        check_text(text)
        _check_texts(texts)
        others = {name: texts[name] for name in sorted(texts) if name in self._prints}
        lines = [(OWN, self._prints[OWN].first_stale(text))]
        lines.extend([(name, self._prints[name].first_stale(others[name])) for name in others])
        return tuple([(name, line) for name, line in lines if line is not None])

    def renewed(self, name, old, new):
        """The dated map behind the change of one of its texts from old to new."""
        if not isinstance(name, str) or name not in self._prints:
            raise NoText(name)
        check_text(old)
        check_text(new)
        line = self._prints[name].first_stale(old)
        if line is not None:
            raise Stale(line)
        change = Edit.between(old, new)
        own_map = edited(self._map, change) if name == OWN else led(self._map, name, change)
        return _dated(own_map, {**self._prints, name: Fingerprint(new)})


def _dated(own_map, prints):
    """The dated map of a map and all fingerprints."""
    made = Dated(Map(), "", {})
    made._map = own_map
    made._prints = prints
    return made
