"""Programs for tests, and what tools make of them, told sign by sign in the slowest way.

What a tool makes is told as cells: for each line a list of pairs (sign, target).
"""

import re

from mapstack.maps import Map

TOKEN = re.compile(r'(?P<word>[A-Za-z_][A-Za-z0-9_]*)|(?P<number>[0-9]+)|(?P<string>"[^"]*")|(?P<comment>#.*)|(?P<mark>[^ ])')
WORDS = ("alpha", "beta", "b", "x1", "_", "gamma_2", "c", "d", "use", "let")
OTHERS = ("1", "22", "007", '"a # b"', '""', '"x"', "+", "=", "(", "'", "~")
FAR = 10 ** 9


def row_tokens(row):
    """The tokens of a line, and the column of its comment or None; ValueError for a string without an end."""
    found = []
    for match in TOKEN.finditer(row):
        if match.lastgroup == "comment":
            return found, match.start()
        if match.group() == '"':
            raise ValueError(match.start())
        found.append((match.lastgroup, match.group(), match.start()))
    return found, None


def tokens_by_words(text):
    """The words of [61]."""
    found = []
    for line, row in enumerate(text.split("\n")):
        found += [(sort, spelling, line, column) for sort, spelling, column in row_tokens(row)[0]]
    return found


def spellings_of(row):
    return [spelling for _, spelling, _ in row_tokens(row)[0]]


def is_needed(front, rear):
    """Whether two tokens are read as others without a space between them."""
    return spellings_of(front + rear) != [front, rear]


def any_line(chance, words=WORDS, most=5):
    parts = [" " * chance.choice((0, 0, 0, 1, 3))]
    for _ in range(chance.randrange(most + 1)):
        parts.append(chance.choice(words if chance.random() < 0.6 else OTHERS))
        parts.append(" " * chance.choice((0, 1, 1, 2, 3)))
    if chance.random() < 0.2:
        parts.append(chance.choice(("#", "# a comment", '#"', "# let b = c  ")))
    return "".join(parts)


def any_program(chance, words=WORDS, lines=6, most=5):
    """Some lines, without let lines if let is no one of the words."""
    return "\n".join(any_line(chance, words, most) for _ in range(chance.randrange(lines) + 1))


def kept_cells(source, line, row, first=0, after=None):
    """The cells of a part of a line."""
    after = len(row) if after is None else after
    return [(row[column], (source, line, column, None)) for column in range(first, after)]


def point_cells(signs, source, line, column, word):
    return [(sign, (source, line, column, word)) for sign in signs]


def text_of(cells):
    return "\n".join("".join(sign for sign, _ in row) for row in cells)


def check_made(case, cells, made):
    """Check the text, and the map at every position: also that it is closed, and what stands in its runs."""
    text, own_map = made
    case.assertIs(tuple, type(made))
    case.assertIs(Map, type(own_map))
    case.assertEqual(text_of(cells), text)
    for line, row in enumerate(cells):
        targets = [own_map(line, column) for column in range(len(row))]
        case.assertEqual([target for _, target in row], targets, text)
        for column in (len(row), len(row) + 1, FAR):
            case.assertIsNone(own_map(line, column))
    for line in (len(cells), len(cells) + 1, FAR):
        case.assertEqual((), own_map[line])


def check_runs(case, made, texts):
    """Check that the signs of what leads somewhere without a word are those of the targets."""
    text, own_map = made
    for line, row in enumerate(text.split("\n")):
        for column, sign in enumerate(row):
            target = own_map(line, column)
            if target is not None and target[3] is None:
                case.assertEqual(sign, texts[target[0]].split("\n")[target[1]][target[2]])
