"""Tools: they make programs of programs, each with a map that tells where its characters come from."""

from mapstack.checks import TEXT_LIMIT, is_up_to
from mapstack.errors import BadMap, BadName, BadNumber, BadProgram, NoText, Ring, TooLarge
from mapstack.maps import check_map, check_source, is_source
from mapstack.programs import kept, kept_line, replaced, whole_program
from mapstack.tokens import check_program, end_of_token, is_space_needed, is_word, put_together, read_rows

USE = "use"
LET = "let"
NEW_SIGNS = "abcdefghijklmnopqrstuvwxyz"
# The source of programs of which the new text alone is asked for.
NO_SOURCE = "-"
TEXTS_LIMIT = 100
WIDTH_LIMIT = 1000


def _rows_of(text, source):
    """The lines of a program with their tokens, as read_rows tells them."""
    check_program(text)
    check_source(source)
    return read_rows(text)


def _is_use_row(found):
    """Whether the tokens of a line are those of a use line."""
    return len(found) == 2 and found[0][1] == USE and found[1][0] == "word"


def _is_let_row(found):
    """Whether the tokens of a line are those of a let line, perhaps a wrong one."""
    return bool(found) and found[0][1] == LET


class Tool:
    """Reads the tokens of a program, and changes nothing."""

    TITLE = "same"

    def __call__(self, text, source):
        """The new text, and the map that leads to the program by the name of a source."""
        rows = _rows_of(text, source)
        return whole_program([kept_line(source, line, row[0]) for line, row in enumerate(rows)])

    def new_text(self, text):
        """The new text alone."""
        return self(text, NO_SOURCE)[0]


def _stripped_pieces(source, line, signs, found):
    """The tokens of a line, with one space where it is needed."""
    pieces = []
    for index, token in enumerate(found):
        after = end_of_token(token)
        if index + 1 < len(found) and is_space_needed(token[0], found[index + 1][0]):
            after += 1
        pieces.append(kept(source, line, signs, token[3], after))
    return pieces


class Stripping(Tool):
    """Leaves out comments, lines without tokens, and all spaces that are not needed."""

    TITLE = "stripped"

    def __call__(self, text, source):
        """The new text, and its map."""
        lines = []
        for line, (signs, found, _) in enumerate(_rows_of(text, source)):
            if found:
                lines.append(_stripped_pieces(source, line, signs, found))
        # Behind the last line feed stands one line more.
        return whole_program(lines + [[]])

    def new_text(self, text):
        """The new text alone."""
        return self(text, NO_SOURCE)[0]


def _new_word(number):
    """The word of this number in the row a, b, .., z, aa, ab, .."""
    spelling = NEW_SIGNS[number % 26]
    while number >= 26:
        number = number // 26 - 1
        spelling = NEW_SIGNS[number % 26] + spelling
    return spelling


def _words_to_keep(rows, told):
    """A dict whose keys are the words that keep their spelling."""
    words = {word: True for word in told}
    words[USE] = words[LET] = True
    for _, found, _ in rows:
        if _is_use_row(found):
            words[found[1][1]] = True
    return words


def _new_words(rows, told):
    """The new words of all others than the kept ones, in the order in which they get them."""
    keeping = _words_to_keep(rows, told)
    uses = {}
    for _, found, _ in rows:
        for sort, spelling, _, _ in found:
            if sort == "word" and spelling not in keeping:
                uses[spelling] = uses.get(spelling, 0) + 1
    made = {}
    number = 0
    for _, _, word in sorted([(-uses[word], index, word) for index, word in enumerate(uses)]):
        while _new_word(number) in keeping:
            number += 1
        made[word] = _new_word(number)
        number += 1
    return made


class Shortening(Tool):
    """Gives words new ones, short ones to those that are used most."""

    TITLE = "shortened"

    def __init__(self, *keep):
        for word in keep:
            if not is_word(word):
                raise BadName(word)
        self._keep = keep

    def __call__(self, text, source):
        """The new text, and its map, whose words are the old ones."""
        rows = _rows_of(text, source)
        words = _new_words(rows, self._keep)
        lines = []
        for line, (signs, found, _) in enumerate(rows):
            parts = []
            for token in found:
                _, spelling, _, column = token
                if spelling in words:
                    told = ("point", source, line, column, spelling)
                    parts.append((column, end_of_token(token), [(words[spelling], told)]))
            lines.append(replaced(source, line, signs, parts))
        return whole_program(lines)

    def new_text(self, text):
        """The new text alone."""
        return self(text, NO_SOURCE)[0]

    def new_words(self, text):
        """The new words by the old ones, in the order in which they are given."""
        return _new_words(read_rows(text), self._keep)


def _are_programs(texts):
    """Whether a value is a dict of programs by names, and not too many."""
    if not isinstance(texts, dict) or len(texts) > TEXTS_LIMIT:
        return False
    return all([is_source(name) and isinstance(text, str) for name, text in texts.items()])


class Including(Tool):
    """Puts other texts in place of the lines that name them."""

    TITLE = "included"

    def __init__(self, texts, *, once=False):
        if not _are_programs(texts):
            raise BadMap(texts)
        self._texts = {name: texts[name] for name in texts}
        self._once = once

    def __call__(self, text, source):
        """The new text, and its map, which leads to the texts that are put in, too."""
        check_program(text)
        check_source(source)
        self._check_uses(text, (source,), {})
        return whole_program(self._whole_lines(source, read_rows(text), {}))

    def new_text(self, text):
        """The new text alone."""
        return self(text, NO_SOURCE)[0]

    def _check_uses(self, text, path, done):
        """Refuse what is wrong in a text and in those that it names, as it is met; done ones are not read again."""
        for _, found, _ in read_rows(text):
            if _is_use_row(found):
                name = found[1][1]
                # Told ahead of NoText, because the program is the first text also if the dict has none of its name.
                if name in path:
                    raise Ring(path + (name,))
                if name not in self._texts:
                    raise NoText(name)
                if name not in done:
                    self._check_uses(self._texts[name], path + (name,), done)
                    done[name] = True

    def _whole_lines(self, source, rows, done):
        """The lines of a text and of those that it names, of which the lines of done ones are known."""
        lines = []
        for line, (signs, found, _) in enumerate(rows):
            if _is_use_row(found):
                lines.extend(self._used_lines(found[1][1], done))
            else:
                lines.append(kept_line(source, line, signs))
            # Each line has a character or a line feed; texts that name others twice soon have very many.
            if len(lines) > TEXT_LIMIT + 1:
                raise TooLarge(TEXT_LIMIT)
        return lines

    def _used_lines(self, name, done):
        """The lines that are put in for a text."""
        if name in done:
            return [] if self._once else done[name]
        rows = read_rows(self._texts[name])
        if rows[-1][0] == "":
            rows = rows[:-1]
        lines = self._whole_lines(name, rows, done)
        done[name] = lines
        return lines


def _check_let_rows(rows):
    """Refuse the first let line that does not define a macro."""
    for line, (_, found, _) in enumerate(rows):
        if _is_let_row(found):
            names_macro = len(found) > 3 and is_word(found[1][1]) and found[1][1] not in (USE, LET)
            if not names_macro or found[2][1] != "=":
                raise BadProgram((line, 0))


def _macro_of(found, macros):
    """The sort of the first token of a macro, its text, and the sort of its last token; known macros are replaced."""
    parts = [macros.get(spelling, (sort, spelling, sort)) for sort, spelling, _, _ in found]
    signs = put_together(parts)
    # Told before it is joined, because each part may be a long macro itself.
    if sum([len(row) for row in signs]) > TEXT_LIMIT:
        raise TooLarge(TEXT_LIMIT)
    return parts[0][0], "".join(signs), parts[-1][2]


def _expansions(source, line, found, macros):
    """The parts of a line that are replaced by macros."""
    parts = []
    before = None
    for token in found:
        _, spelling, _, column = token
        if spelling in macros:
            first, text, _ = macros[spelling]
            told = ("point", source, line, column, spelling)
            pieces = [(text, told)]
            is_behind = before is not None and end_of_token(before) == column
            if is_behind and is_space_needed(before[0], first):
                pieces = [(" ", told), (text, told)]
            parts.append((column, end_of_token(token), pieces))
        before = token
    return parts


class Expanding(Tool):
    """Puts macros in place of the words for which let lines define them."""

    TITLE = "expanded"

    def __call__(self, text, source):
        """The new text, and its map, in which the words of macros are points."""
        rows = _rows_of(text, source)
        _check_let_rows(rows)
        macros = {}
        lines = []
        for line, (signs, found, _) in enumerate(rows):
            if _is_let_row(found):
                macros[found[1][1]] = _macro_of(found[3:], macros)
            else:
                lines.append(replaced(source, line, signs, _expansions(source, line, found, macros)))
        return whole_program(lines)

    def new_text(self, text):
        """The new text alone."""
        return self(text, NO_SOURCE)[0]


def _breaks_of(signs, found, end):
    """The columns at which each break of a line begins and ends."""
    begins = [token[3] for token in found[1:]]
    if end < len(signs):
        begins.append(end)
    afters = [end_of_token(token) for token in found]
    return [(after, begin) for after, begin in zip(afters, begins) if after < begin]


def _wrapped_spans(length, breaks, width):
    """The columns at which each line begins and ends that is made of one line."""
    spans = []
    begin = index = 0
    while length - begin > width and index < len(breaks):
        while index + 1 < len(breaks) and breaks[index + 1][0] - begin <= width:
            index += 1
        spans.append((begin, breaks[index][0]))
        begin = breaks[index][1]
        index += 1
    return spans + [(begin, length)]


class Wrapping(Tool):
    """Breaks lines that are longer than a width."""

    TITLE = "wrapped"

    def __init__(self, width):
        if not is_up_to(width, WIDTH_LIMIT) or width == 0:
            raise BadNumber(width)
        self._width = width

    def __call__(self, text, source):
        """The new text, and its map."""
        lines = []
        for line, (signs, found, end) in enumerate(_rows_of(text, source)):
            spans = _wrapped_spans(len(signs), _breaks_of(signs, found, end), self._width)
            lines.extend([[kept(source, line, signs, first, after)] for first, after in spans])
        return whole_program(lines)

    def new_text(self, text):
        """The new text alone."""
        return self(text, NO_SOURCE)[0]


def _restored_groups(found, map_here):
    """Tuples (sort, first, behind, word) for the tokens of a line; word is None if they stay.

    Neighbors with the same target, which are replaced together, are one.
    """
    groups = []
    before = None
    for token in found:
        sort, _, line, column = token
        target = map_here.target_at(line, column)
        if target is None or not is_word(target[3]):
            groups.append((sort, column, end_of_token(token), None))
            target = None
        elif target == before:
            groups[-1] = ("word", groups[-1][1], end_of_token(token), target[3])
        else:
            groups.append(("word", column, end_of_token(token), target[3]))
        before = target
    return groups


def _restored_parts(source, line, groups):
    """The parts of a line that are replaced by words, and spaces where they are needed."""
    parts = []
    sort_before = end = None
    for sort, first, after, word in groups:
        if first == end and is_space_needed(sort_before, sort):
            parts.append((first, first, [(" ", None)]))
        if word is not None:
            parts.append((first, after, [(word, ("point", source, line, first, None))]))
        sort_before, end = sort, after
    return parts


def restored(text, source, map_here):
    """The text with the words that its map tells in place of tokens, and the map to this text."""
    check_program(text)
    check_source(source)
    check_map(map_here)
    lines = []
    for line, (signs, found, _) in enumerate(read_rows(text)):
        parts = _restored_parts(source, line, _restored_groups(found, map_here))
        lines.append(replaced(source, line, signs, parts))
    return whole_program(lines)
