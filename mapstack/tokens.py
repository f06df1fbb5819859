"""Tokens: the words, numbers, strings and marks of programs."""

from mapstack.checks import TEXT_LIMIT
from mapstack.errors import BadName, BadProgram

DIGITS = "0123456789"
WORD_SIGNS = "ABCDEFGHIJKLMNOPQRSTUVWXYZabcdefghijklmnopqrstuvwxyz0123456789_"
WORD_LIMIT = 40
# Pairs of sorts of which the second one, directly behind the first one, would be read as a part of it.
MELTING = (("word", "word"), ("number", "number"), ("word", "number"))


def check_program(value):
    """Refuse what is no string, and one that is too long."""
    if not isinstance(value, str) or len(value) > TEXT_LIMIT:
        raise BadProgram(None)


def is_word(value):
    """Whether a value is the spelling of a word."""
    if not isinstance(value, str) or not 1 <= len(value) <= WORD_LIMIT or value[0] in DIGITS:
        return False
    return all([sign in WORD_SIGNS for sign in value])


def is_space_needed(front, rear):
    """Whether a space is needed between two tokens of these sorts."""
    return (front, rear) in MELTING


def _behind_signs(row, column, signs):
    """The first column from a column on at which none of some signs stands."""
    while column < len(row) and row[column] in signs:
        column += 1
    return column


def _token_at(row, line, column):
    """The token that begins at a column of a line."""
    if row[column] in DIGITS:
        sort, after = "number", _behind_signs(row, column, DIGITS)
    elif row[column] in WORD_SIGNS:
        sort, after = "word", _behind_signs(row, column, WORD_SIGNS)
    elif row[column] == '"':
        # Without another one on the line this is 0.
        sort, after = "string", row.find('"', column + 1) + 1
    else:
        sort, after = "mark", column + 1
    if after == 0 or (sort == "word" and after - column > WORD_LIMIT):
        raise BadProgram((line, column))
    return sort, row[column:after], line, column


def _read_row(row, line):
    """The tokens of a line, and the column at which its comment begins, or its end."""
    found = []
    column = 0
    while column < len(row) and row[column] != "#":
        if row[column] == " ":
            column += 1
        else:
            token = _token_at(row, line, column)
            found.append(token)
            column = end_of_token(token)
    return found, column


def end_of_token(token):
    """The column behind a token."""
    return token[3] + len(token[1])


def read_rows(text):
    """For each line of a program its signs, its tokens, and the column of its comment, or of its end."""
    check_program(text)
    rows = []
    for line, row in enumerate(text.split("\n")):
        found, end = _read_row(row, line)
        rows.append((row, found, end))
    return rows


def tokens(text):
    """Yield the tokens of a program: tuples (sort, spelling, line, column)."""
    for _, found, _ in read_rows(text):
        yield from found


def put_together(parts):
    """The signs of some parts in a list, with the spaces that are needed between them.

    A part is a tuple of the sort of its first token, its signs, and the sort of its last token.
    """
    signs = []
    before = None
    for first, spelling, last in parts:
        if is_space_needed(before, first):
            signs.append(" ")
        signs.append(spelling)
        before = last
    return signs


def _sort_of(spelling):
    """The sort of a token; None for all else."""
    try:
        found = list(tokens(spelling))
    except BadProgram:
        return None
    if len(found) != 1 or found[0][1] != spelling:
        return None
    return found[0][0]


def spelled(spellings):
    """The text of a tuple of tokens, put together with the spaces that are needed."""
    if not isinstance(spellings, tuple):
        raise BadName(spellings)
    parts = []
    for spelling in spellings:
        sort = _sort_of(spelling)
        if sort is None:
            raise BadName(spelling)
        parts.append((sort, spelling, sort))
    return "".join(put_together(parts))
