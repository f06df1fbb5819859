"""Maps for tests: lists of segments, and what they tell, told in the slowest way."""

import random

END = 14
FAR = 10 ** 9


def any_segments(chance, lines=2, columns=7, most=6, sources="st", words=(None, None, "w", "v")):
    """Some segments with different beginnings, in any order, often needless ones."""
    made = {}
    for _ in range(chance.randrange(most + 1)):
        place = (chance.randrange(lines), chance.randrange(columns))
        sort = chance.choice(("gap", "run", "run", "point"))
        if sort == "gap":
            made[place] = ("gap",) + place
        else:
            word = chance.choice(words)
            leads = (chance.choice(sources), chance.randrange(2), chance.randrange(4))
            made[place] = (sort,) + place + leads + (() if word is None else (word,))
    segments = list(made.values())
    chance.shuffle(segments)
    return segments


def many_segments(many, seed=1, **named):
    chance = random.Random(seed)
    return [any_segments(chance, **named) for _ in range(many)]


def target_by_words(segments, line, column):
    """The words of [11]: the last segment of the line that begins at or in front of the column."""
    best = None
    for segment in segments:
        if segment[1] == line and segment[2] <= column and (best is None or segment[2] > best[2]):
            best = segment
    if best is None or best[0] == "gap":
        return None
    by = column - best[2] if best[0] == "run" else 0
    return (best[3], best[4], best[5] + by, best[6] if len(best) == 7 else None)


def columns_by_words(segments, line, end=END):
    return [target_by_words(segments, line, column) for column in range(end)]


def step(target, by=1):
    return target[:2] + (target[2] + by,) + target[3:]


def pieces_by_words(targets, line):
    """The words of [12], column by column; the last column goes on without end."""
    pieces, first = [], 0
    while first < len(targets):
        target = targets[first]
        lengths = {}
        for sort in ("run", "point"):
            after = first + 1
            while after < len(targets) and targets[after] == (
                step(target, after - first) if target and sort == "run" else target
            ):
                after += 1
            lengths[sort] = after - first
        sort = "point" if lengths["point"] > lengths["run"] else "run"
        if target is not None:
            word = () if target[3] is None else (target[3],)
            pieces.append((sort, line, first) + target[:3] + word)
        elif pieces:
            pieces.append(("gap", line, first))
        first += lengths[sort]
    return tuple(pieces)


def fewest_segments(targets):
    """The least number of segments that tell the same; gaps in front do not count."""
    best = [0] + [None] * len(targets)
    for after in range(1, len(targets) + 1):
        choices = []
        for first in range(after):
            part = targets[first:after]
            if part == [None] * len(part):
                choices.append(best[first] + (0 if targets[:first] == [None] * first else 1))
            elif part[0] is not None:
                if part == [step(part[0], by) for by in range(len(part))] or part == part[:1] * len(part):
                    choices.append(best[first] + 1)
        best[after] = min(choices)
    return best[-1]


def joined(flags, line):
    """The ranges of the columns that are flagged; the last column goes on without end."""
    ranges = []
    for column, flag in enumerate(flags):
        if flag and (column == 0 or not flags[column - 1]):
            ranges.append([line, column, None])
        if not flag and column > 0 and flags[column - 1]:
            ranges[-1][2] = column
    return [tuple(row) for row in ranges]


def alternating(many, source="s", per_line=5000):
    """Segments that make just so many pieces: points of single columns are runs of one column."""
    return [("run", k // per_line, k % per_line, source, k % 2, 5 * k) for k in range(many)]
