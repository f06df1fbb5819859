"""Sessions: a tracker that is told by commands, which are texts, and answers by texts."""

from mapstack.edits import Edit
from mapstack.errors import (
    BadName, BadNumber, BadPlace, BadProgram, BadText, NoPlace, NoText, NothingLeft, TooLarge,
)
from mapstack.maps import NUMBER_LIMIT
from mapstack.tokens import DIGITS
from mapstack.tools import Expanding, Stripping, Wrapping
from mapstack.trackers import Tracker

NUMBER = "number"
# What stands behind the first word of a command, except for its text.
FORMS = {
    "text": "name",
    "strip": "name",
    "expand": "name",
    "wrap": "number name",
    "edit": "name number number number number",
    "undo": "",
    "redo": "",
    "show": "name",
    "trail": "number number",
}
WITH_TEXT = ("text", "edit")
DONE = "ok"
WRONG = "bad command"


def _number_in(word):
    """The number that a word tells, up to the limit and without needless zeros, or None."""
    if not word or not all([sign in DIGITS for sign in word]) or len(word) > len(str(NUMBER_LIMIT)):
        return None
    number = int(word)
    return number if number <= NUMBER_LIMIT and str(number) == word else None


def _parsed(command):
    """The first word of a command, and its other words, numbers and text in a list; None for what is none."""
    if not isinstance(command, str):
        return None
    head, feed, text = command.partition("\n")
    words = head.split(" ")
    if words[0] not in FORMS or (feed == "\n") != (words[0] in WITH_TEXT):
        return None
    kinds = FORMS[words[0]].split()
    if len(kinds) != len(words) - 1:
        return None
    told = [_number_in(word) if kind == NUMBER else word for kind, word in zip(kinds, words[1:])]
    if None in told:
        return None
    if feed:
        told.append(text)
    return words[0], told


class Session:
    """Answers commands with a tracker, which the first one of them begins."""

    def __init__(self):
        self._tracker = None

    def execute(self, command):
        """Do what a command says; the answer."""
        parsed = _parsed(command)
        if parsed is None:
            return WRONG
        word, told = parsed
        if word != "text" and self._tracker is None:
            return WRONG
        try:
            return self._answer(word, told)
        except (BadProgram, BadText):
            return "bad text"
        except (BadPlace, NoPlace, BadNumber):
            return "bad place"
        except (BadName, NoText):
            return "bad name"
        except TooLarge:
            return "too large"

    def run(self, commands):
        """The answers to the commands of a tuple, in a list."""
        if not isinstance(commands, tuple):
            raise BadName(commands)
        return [self.execute(command) for command in commands]

    def tracker(self):
        """A copy of the tracker, or None in front of the first text."""
        return None if self._tracker is None else self._tracker.copy()

    def _answer(self, word, told):
        if word == "text":
            self._tracker = Tracker(told[0], told[1])
            return DONE
        if word in ("strip", "expand", "wrap"):
            return self._add(word, told)
        if word == "edit":
            return self._edit(*told)
        if word in ("undo", "redo"):
            return self._step(word)
        if word == "show":
            return self._tracker.text_of(told[0])
        return self._trail_text(*told)

    def _add(self, word, told):
        """Add what a tool makes of the last text."""
        if word == "wrap":
            tool = Wrapping(told[0])
        else:
            tool = Stripping() if word == "strip" else Expanding()
        last = self._tracker.names()[-1]
        text, own_map = tool(self._tracker.text_of(last), last)
        self._tracker.add(told[-1], text, own_map)
        return DONE

    def _edit(self, name, low_line, low_column, high_line, high_column, text):
        """Edit a text, whose name counts ahead of the positions."""
        self._tracker.text_of(name)
        self._tracker.change(name, Edit((low_line, low_column), (high_line, high_column), text))
        return DONE

    def _step(self, word):
        """Undo or redo a step."""
        try:
            if word == "undo":
                self._tracker.undo()
            else:
                self._tracker.redo()
        except NothingLeft:
            return "nothing"
        return DONE

    def _trail_text(self, line, column):
        """The trail of a position, with its places one behind the other."""
        places = list(self._tracker.trail(line, column))
        return " < ".join([f"{name} {in_line}:{in_column}" for name, in_line, in_column in places])
