"""Levels for tests: dicts from sources to segments, and how targets are led through them, in the slowest way."""

from mapstack.maps import ClosedMap, Map
from tests.mapcases import FAR, any_segments, target_by_words

# Behind this column nothing begins in what is drawn here, even if it is led through several levels.
WIDE = 40
LEVEL_SOURCES = ("s", "t", "u")


def any_rows(chance, sources=LEVEL_SOURCES, leads="stuv", **named):
    """The segments of some levels' maps, by sources, in any order; often without some of the sources."""
    names = chance.sample(sources, chance.randrange(len(sources) + 1))
    return {name: any_segments(chance, sources=leads, **named) for name in names}


def level_of(rows):
    return {name: Map(*segments) for name, segments in rows.items()}


def led_by_words(target, rows):
    """The words of [26]."""
    if target is None or target[0] not in rows:
        return target
    told = target_by_words(rows[target[0]], target[1], target[2])
    if told is None:
        return None
    return told if told[3] is not None else told[:3] + (target[3],)


def led_places(segments, levels, places):
    """The targets of places, led through levels of segments one after the other."""
    found = []
    for place in places:
        target = target_by_words(segments, *place)
        for rows in levels:
            target = led_by_words(target, rows)
        found.append(target)
    return found


def all_places(lines=3, columns=WIDE):
    return [(line, column) for line in range(lines) for column in range(columns)] + [(0, FAR), (1, FAR), (FAR, 0)]


def closed_case(chance):
    """A closed map, and the plain map that it equals."""
    segments = tuple(any_segments(chance))
    lengths = tuple(chance.randrange(9) for _ in range(chance.randrange(4)))
    return ClosedMap(lengths, segments), Map(*segments).closed(lengths)


def pieces_of(level):
    """The pieces of a level's maps, with its sources in their order."""
    return [(name, tuple(own_map.pieces())) for name, own_map in level.items()]
