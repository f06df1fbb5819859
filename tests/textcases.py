"""Texts of maps for tests: written from segments as they are, and judged by the words of [18] to [23]."""

from mapstack.codes import Alphabet

NAME_SIGNS = "ABCDEFGHIJKLMNOPQRSTUVWXYZabcdefghijklmnopqrstuvwxyz0123456789_-./"
STANDARD = Alphabet.STANDARD


def code(number, signs=STANDARD):
    text = signs[number % 32]
    while number >= 32:
        number //= 32
        text = signs[number % 32 + 32] + text
    return text


def fold(number):
    return 2 * number if number >= 0 else -2 * number - 1


def signed(number, signs=STANDARD):
    return code(fold(number), signs)


def list_text(names, signs=STANDARD):
    return code(len(names), signs) + "".join(code(len(name), signs) + name for name in names)


def written(segments, sources=(), words=(), empty=0, signs=STANDARD):
    """A text of just these ascending segments, with more names and empty lines at the end, if they are given."""
    sources, words = list(sources), list(words)
    for names, at in ((sources, 3), (words, 6)):
        used = []
        for segment in segments:
            if len(segment) > at and segment[at] not in used:
                used.append(segment[at])
        names[:] = used + [name for name in names if name not in used]
    lines, place, word = [[]], (0, 0, 0), 0
    for segment in segments:
        while len(lines) <= segment[1]:
            lines.append([])
        before = lines[-1][-1][1] if lines[-1] else -1
        text = code(segment[2] - before - 1, signs)
        if segment[0] != "gap":
            new = (sources.index(segment[3]), segment[4], segment[5])
            text += ">" if segment[0] == "run" else "."
            text += "".join(signed(one - other, signs) for one, other in zip(new, place))
            place = new
        if len(segment) > 6:
            text += "'" + signed(words.index(segment[6]) - word, signs)
            word = words.index(segment[6])
        lines[-1].append((text, segment[2]))
    texts = [",".join(text for text, _ in line) for line in lines]
    return list_text(sources, signs) + list_text(words, signs) + ";".join(texts) + ";" * empty


class Stop(Exception):
    """No right text goes on behind this index."""


class Judge:
    """Finds the first wrong index of a text by all right codes at each place."""

    def __init__(self, text, most, most_names, most_lines):
        self.text, self.most, self.most_names, self.most_lines = text, most, most_names, most_lines
        self.at = 0

    def wrong(self):
        try:
            sources, words = self.names(), self.names()
            self.lines(sources, words)
        except Stop as stop:
            return stop.args[0]
        return None

    def code(self, right):
        rest, longest = self.text[self.at:], 0
        for number in right:
            one = code(number)
            if rest.startswith(one):
                self.at += len(one)
                return number
            common = 0
            while common < min(len(one), len(rest)) and one[common] == rest[common]:
                common += 1
            longest = max(longest, common)
        raise Stop(self.at + longest)

    def difference(self, last, most):
        choices = {fold(number - last): number for number in range(most + 1)}
        return choices[self.code(choices)]

    def names(self):
        names = []
        for _ in range(self.code(range(self.most_names + 1))):
            lengths = [length for length in range(1, 41) if length > 1 or sum(len(name) == 1 for name in names) < 66]
            length = self.code(lengths)
            name = ""
            while len(name) < length:
                if self.at == len(self.text) or self.text[self.at] not in NAME_SIGNS:
                    raise Stop(self.at)
                name += self.text[self.at]
                same = [row for row in names if len(row) == length and row.startswith(name)]
                if len(same) == 66 ** (length - len(name)):
                    raise Stop(self.at)
                self.at += 1
            names.append(name)
        return names

    def mark(self, signs):
        """The next character, if it is one of some, and None at the end."""
        if self.at == len(self.text):
            return None
        if self.text[self.at] not in signs:
            raise Stop(self.at)
        self.at += 1
        return self.text[self.at - 1]

    def lines(self, sources, words):
        last, last_word, used, used_words, line = [0, 0, 0], 0, 0, 0, 0
        column, end = -1, ""
        while True:
            ends = ";" if line < self.most_lines - 1 else ""
            if end != "," and (self.at == len(self.text) or self.text[self.at] == ";"):
                end = self.mark(ends)
                if end is None:
                    return
                line, column = line + 1, -1
                continue
            column += 1 + self.code(range(self.most - column))
            ends += "," if column < self.most else ""
            mark = self.mark(ends + (">." if sources else ""))
            if mark is not None and mark in ">.":
                mosts = (min(used, len(sources) - 1), self.most, self.most)
                last = [self.difference(old, most) for old, most in zip(last, mosts)]
                used = max(used, last[0] + 1)
                mark = self.mark(ends + ("'" if words else ""))
                if mark == "'":
                    last_word = self.difference(last_word, min(used_words, len(words) - 1))
                    used_words = max(used_words, last_word + 1)
                    mark = self.mark(ends)
            if mark is None:
                return
            end = mark
            if mark == ";":
                line, column = line + 1, -1
