"""What counts as a number, a position and a text, and the errors for all else."""

from mapstack.errors import BadNumber, BadPlace, BadText

# The most characters of a program, and of all texts that are made piece by piece.
TEXT_LIMIT = 20000


def is_integer(value):
    return isinstance(value, int) and not isinstance(value, bool)


def is_count(value):
    """Whether a value is an integer from 0 on."""
    return is_integer(value) and value >= 0


def is_up_to(value, limit):
    """Whether a value is an integer from 0 to a limit; without one for None."""
    return is_count(value) and (limit is None or value <= limit)


def is_place(value):
    """Whether a value is a position, however far out."""
    return isinstance(value, tuple) and len(value) == 2 and is_count(value[0]) and is_count(value[1])


def check_count(value):
    if not is_count(value):
        raise BadNumber(value)


def check_up_to(value, limit):
    if not is_up_to(value, limit):
        raise BadNumber(value)


def check_text(value):
    if not isinstance(value, str):
        raise BadText(None)


def check_span(low, high):
    """Refuse what is no position, and a high in front of its low."""
    if not is_place(low):
        raise BadPlace(low)
    if not is_place(high) or high < low:
        raise BadPlace(high)
