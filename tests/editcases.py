"""Edits for tests, of positions that are in a text or virtual, and of texts."""

from mapstack.edits import Edit

FRESH = ("", "", "x", "xyz", "\n", "a\nb", "\n\n", "abc\nd", "\na")


def any_place(chance, lines=3, columns=9):
    return chance.randrange(lines), chance.randrange(columns)


def any_edit(chance, lines=3, columns=9):
    """An edit over no, some or several lines, sometimes an idle one."""
    low, high = sorted([any_place(chance, lines, columns), any_place(chance, lines, columns)])
    if chance.random() < 0.3:
        high = low
    elif chance.random() < 0.4:
        high = (low[0], low[1] + chance.randrange(4))
    return Edit(low, high, chance.choice(FRESH))


def any_edit_of(chance, text, fresh=FRESH):
    """An edit whose low and high are in a text."""
    low, high = sorted([chance.randrange(len(text) + 1), chance.randrange(len(text) + 1)])
    if chance.random() < 0.3:
        high = low
    return Edit(place_at(text, low), place_at(text, high), chance.choice(fresh))


def place_at(text, index):
    front = text[:index].split("\n")
    return len(front) - 1, len(front[-1])


def changed_text(text, edit):
    """The new text, sign by sign."""
    places = [place_at(text, index) for index in range(len(text) + 1)]
    return text[:places.index(edit.low)] + edit.fresh + text[places.index(edit.high):]
