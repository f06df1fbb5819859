"""mapstack.maptexts: points [21] to [24]."""

import random
import unittest
from unittest import mock

from mapstack import readers
from mapstack.codes import Alphabet
from mapstack.errors import BadAlphabet, BadMap, BadText, TooLarge
from mapstack.maps import ClosedMap, Map
from mapstack.maptexts import Decoder, first_wrong, is_map_text, map_text, read_map, segments_in
from tests.mapcases import FAR, alternating, any_segments, many_segments
from tests.support import NO_TEXTS, fails
from tests.textcases import NAME_SIGNS, Judge, code, list_text, signed, written

EXAMPLE = "BBaBDoldA>AAA,D.AEC'A"
OWN = Map(("run", 0, 0, "a", 0, 0), ("point", 0, 4, "a", 2, 1, "old"))
CHARACTERS = [chr(number) for number in range(32, 127)]
OTHER = Alphabet("".join(sign for sign in CHARACTERS if sign not in "%,;>.'")[:64])
NO_ALPHABETS = (True, False, 0, "", Alphabet.STANDARD, b"", [], (), {}, object())
NO_MAPS = (True, False, None, 0, "s", EXAMPLE, (), [], {}, object())
CASES = [sorted(segments, key=lambda row: row[1:3]) for segments in many_segments(120, 21, lines=3)]


def texts_for_judging():
    """Texts of many forms, most of them right."""
    chance = random.Random(31)
    texts = []
    for segments in CASES[:60]:
        names = chance.sample(["s", "t", "long.name/1", "w"], chance.randrange(4))
        texts.append(written(segments, names, names[:1], chance.randrange(2)))
    big = [("run", 0, 0, "s", 1500, 0), ("point", 0, 1, "t", 0, 1500, "w"), ("gap", 0, 1500)]
    big.append(("run", 1, 1200, "s", 7, 900))
    return texts + [written(big, "uv", "xyz"), written(big[1:3]), "AA", "AA;", "AA;;", written([("gap", 2, 3)])]


def changed_texts(text, chance):
    """A text with one sign changed, left out, or put in, or cut off."""
    at = chance.randrange(len(text) + 1)
    sign = chance.choice("ABCDhijgk;,>.'s-% ")
    rest = text[at + 1:]
    return [text[:at] + sign + rest, text[:at] + rest, text[:at] + sign + text[at:], text[:at]]


class WrittenTest(unittest.TestCase):
    def test_example_of_the_document(self):
        self.assertEqual(("hB", EXAMPLE), (Alphabet.standard()(33), map_text(OWN)))
        self.assertEqual(OWN, read_map(EXAMPLE))
        self.assertEqual([("run", 0, 0, "a", 0, 0)], Decoder().feed("BBaAA>AAA,"))

    def test_written_by_the_words(self):
        for segments in CASES:
            made = Map(*segments)
            text = map_text(made)
            self.assertEqual(written(list(made.pieces())), text)
            self.assertEqual(made, read_map(text))
            self.assertEqual(text, map_text(read_map(text)))
            self.assertTrue(is_map_text(text))
        self.assertEqual("AA", map_text(Map()))

    def test_other_alphabets(self):
        for segments in CASES:
            made = Map(*segments)
            text = map_text(made, alphabet=OTHER)
            self.assertEqual(written(list(made.pieces()), signs="".join(OTHER[k] for k in range(64))), text)
            self.assertEqual(made, read_map(text, alphabet=OTHER))
            self.assertEqual(map_text(made), map_text(made, alphabet=Alphabet.standard()))
            self.assertEqual(map_text(made), map_text(made, alphabet=None))

    def test_reading_takes_needless_things(self):
        for segments in CASES:
            text = written(segments, ["more", "s", "u"], ["x", "w"], 3)
            self.assertEqual(Map(*segments), read_map(text))
            self.assertEqual(segments, list(segments_in(text)))
            self.assertIsNone(first_wrong(text))

    def test_closed_maps(self):
        made = ClosedMap((3,), (("run", 0, 0, "s", 0, 0),))
        self.assertEqual(map_text(Map(("run", 0, 0, "s", 0, 0), ("gap", 0, 3))), map_text(made))
        self.assertIs(Map, read_map(map_text(made)).__class__)

    def test_limits_of_what_is_written(self):
        segments = [("run", 9999, FAR, "s", FAR, FAR, "w")]
        self.assertEqual(Map(*segments), read_map(map_text(Map(*segments))))
        for segment in (("gap", 10000, 3), ("run", FAR, 0, "s", 0, 0)):
            lead = ("run", segment[1], 0, "s", 0, 0)
            fails(self, TooLarge, "limit", 10000, map_text, Map(lead, *([segment] if segment[0] == "gap" else [])))
        for numbers in ((FAR + 1, 0, 0), (0, FAR + 1, 0), (0, 0, FAR + 1)):
            big = Map.unbounded((("point", 0, numbers[0], "s", numbers[1], numbers[2]),))
            fails(self, TooLarge, "limit", FAR, map_text, big)
            self.assertEqual(1, len(big))
        pushed = Map(("point", 0, 0, "s", 0, FAR), ("run", 0, 1, "s", 0, FAR))
        fails(self, TooLarge, "limit", FAR, map_text, pushed)

    def test_limits_of_names(self):
        names = [f"n{k}" for k in range(1001)]
        rows = [("run", k, 0, name, 0, 0) for k, name in enumerate(names)]
        worded = [("run", k, 0, "s", 0, 0, name) for k, name in enumerate(names)]
        for segments in (rows, worded):
            self.assertEqual(Map(*segments[:1000]), read_map(map_text(Map(*segments[:1000]))))
            fails(self, TooLarge, "limit", 1000, map_text, Map(*segments))
            big = Map.unbounded(tuple(segments) + (("run", 0, FAR + 1, "s", 0, 0),))
            fails(self, TooLarge, "limit", 1000, map_text, big)
            fails(self, TooLarge, "limit", 10000, map_text, big | Map(("run", 10000, 0, "s", 0, 0)))
        longest = Map(("run", 0, 0, "a" * 40, 0, 0, "b" * 40))
        self.assertEqual("BhI" + "a" * 40 + "BhI" + "b" * 40 + "A>AAA'A", map_text(longest))
        self.assertEqual(longest, read_map(map_text(longest)))

    def test_errors_in_their_order(self):
        for value in NO_ALPHABETS:
            for call in (map_text, read_map, first_wrong):
                fails(self, BadAlphabet, "given", value, call, None, alphabet=value)
            fails(self, BadAlphabet, "given", value, next, segments_in(None, alphabet=value))
            fails(self, BadAlphabet, "given", value, Decoder, alphabet=value)
        for value in NO_MAPS:
            fails(self, BadMap, "given", value, map_text, value)
        for value in NO_TEXTS:
            for call in (read_map, first_wrong, Decoder().feed):
                fails(self, BadText, "place_index", None, call, value)
            fails(self, BadText, "place_index", None, next, segments_in(value))
            self.assertIs(False, is_map_text(value))

    def test_keyword_only(self):
        for call in (map_text, read_map, first_wrong, segments_in):
            with self.assertRaises(TypeError):
                call(EXAMPLE, None)
        with self.assertRaises(TypeError):
            Decoder(None)

    def test_calls_by_name(self):
        self.assertEqual(EXAMPLE, map_text(own_map=OWN, alphabet=None))
        self.assertEqual(OWN, read_map(text=EXAMPLE))
        self.assertEqual(2, len(list(segments_in(text=EXAMPLE))))
        self.assertIsNone(first_wrong(text=EXAMPLE))
        self.assertIs(True, is_map_text(value=EXAMPLE))
        decoder = Decoder(alphabet=None)
        self.assertTrue(decoder.accepts(sign="A"))
        self.assertEqual([], decoder.feed(piece="A"))

    def test_too_many_pieces_to_be_read(self):
        segments = alternating(10001)
        text = written(segments)
        self.assertTrue(is_map_text(text))
        fails(self, TooLarge, "limit", 10000, read_map, text)
        self.assertEqual(segments, list(segments_in(text)))
        self.assertEqual(Map(*segments[:10000]), read_map(written(segments[:10000])))


class FirstWrongTest(unittest.TestCase):
    def check(self, text, most=1500, names=40, lines=4):
        expected = Judge(text, most, names, lines).wrong()
        self.assertEqual(expected, first_wrong(text), text)
        return expected

    def small_limits(self):
        return mock.patch.multiple(readers, NUMBER_LIMIT=1500, NAMES_LIMIT=40, LINES_LIMIT=4)

    def test_judged_by_all_right_codes(self):
        chance = random.Random(17)
        found = {}
        with self.small_limits():
            for text in texts_for_judging():
                self.assertIsNone(self.check(text))
                for _ in range(8):
                    for other in changed_texts(text, chance):
                        found[self.check(other) is None] = True
        self.assertEqual({True: True, False: True}, found)

    def test_every_beginning_and_every_sign_behind_it(self):
        with self.small_limits():
            for text in texts_for_judging()[-5:] + [written(CASES[3], "xy", "v")]:
                for length in range(len(text)):
                    self.check(text[:length])
                    for sign in CHARACTERS + ["\n", "\u00e9"]:
                        self.check(text[:length] + sign)

    def test_beginnings_are_wrong_at_their_end(self):
        for segments in CASES[:30]:
            text = written(segments, "x", "y")
            for length in range(len(text)):
                wrong = first_wrong(text[:length])
                self.assertIn(wrong, (None, length))
                self.assertIs(wrong is None, is_map_text(text[:length]))
                if wrong is not None:
                    fails(self, BadText, "place_index", length, read_map, text[:length])

    def test_columns_up_to_the_limit(self):
        most = code(FAR)
        self.assertIsNone(first_wrong("AA" + most))
        self.assertEqual(2 + len(most), first_wrong("AA" + most + ","))
        self.assertEqual(2 + len(most) - 1, first_wrong("AA" + code(FAR + 1)))
        self.assertEqual([("gap", 0, FAR - 1), ("gap", 0, FAR)], list(segments_in("AA" + code(FAR - 1) + ",A")))
        self.assertEqual(2 + len(most) + 1, first_wrong("AA" + code(FAR - 1) + ",B"))
        self.assertEqual(4, first_wrong("AAA,,"))
        self.assertIsNone(first_wrong("AAA," + code(FAR - 1)))
        # The last sign of the code of 10 ** 9 is a digit 0, so the one in front of it is too great already.
        self.assertEqual(4 + len(most) - 2, first_wrong("AAA," + code(FAR)))
        self.assertIsNone(first_wrong("AAA;" + most))

    def test_original_numbers_up_to_the_limit(self):
        start = "BBsAA>A"
        step_to, step_back = signed(FAR), signed(-FAR)
        for text in (
            start + step_to + "A", start + "A" + step_to, start + step_to + step_to + ",A>A" + step_back + step_back,
            start + step_to + "A,A>A" + "A" + step_to,
        ):
            self.assertIsNone(first_wrong(text), text)
        for right, wrong in (
            (start, signed(-1)), (start + "A", signed(-1)), (start + step_to + step_to + ",A>A", signed(1)),
            (start + signed(5) + "A,A>A", signed(-6)), (start + signed(5) + "A,A>A", signed(FAR - 4)),
        ):
            self.assertEqual(len(right) + len(wrong) - 1, first_wrong(right + wrong + "A"))
        self.assertIsNone(first_wrong(start + signed(5) + "A,A>A" + signed(FAR - 5) + "A"))
        self.assertIsNone(first_wrong(start + signed(5) + "A,A>A" + signed(-5) + "A"))

    def test_signs_with_more_digits_of_folded_numbers(self):
        start = "BBsAA>A"
        for last in (16, 17, 31, 32):
            text = start + signed(last) + "A,A>A"
            right, wrong = signed(-last), signed(-last - 1)
            self.assertEqual(len(text) + len(right), first_wrong(text + right))
            self.assertEqual(len(text) + len(wrong) - 1, first_wrong(text + wrong))
        ends = start + signed(FAR) + "A,A>A"
        self.assertEqual(len(ends) + 1, first_wrong(ends + "h"))
        self.assertEqual(len(ends), first_wrong(ends + "C"))
        self.assertEqual(len(ends) + 1, first_wrong(ends + "hA"))
        self.assertEqual(len(ends) + 2, first_wrong(ends + "hB"))

    def test_lines_up_to_the_limit(self):
        self.assertIsNone(first_wrong("AA" + ";" * 9999))
        self.assertEqual(2 + 9999, first_wrong("AA" + ";" * 10000))
        self.assertEqual(2 + 9999 + 1, first_wrong("AA" + ";" * 9999 + "A;"))
        self.assertEqual([("gap", 9999, 0), ("gap", 9999, 1)], list(segments_in("AA" + ";" * 9999 + "A,A")))

    def test_number_of_names(self):
        names = [f"n{k}" for k in range(1000)]
        self.assertIsNone(first_wrong(list_text(names) + list_text(names)))
        self.assertEqual(1, first_wrong(code(1001)))
        self.assertEqual(1, first_wrong(code(1024)))
        self.assertEqual(0, first_wrong("gA"))
        text = list_text(names)
        self.assertEqual(len(text) + 1, first_wrong(text + code(1001)))

    def test_lengths_of_names(self):
        self.assertEqual(1, first_wrong("BA"))
        self.assertEqual(3, first_wrong("BBa"))
        self.assertEqual(1, first_wrong("Bg"))
        self.assertEqual(1, first_wrong("Bi"))
        self.assertEqual(2, first_wrong("BhJ"))
        self.assertIsNone(first_wrong("BhI" + "a" * 40 + "A"))
        for length in range(1, 41):
            text = "B" + code(length)
            self.assertIsNone(first_wrong(text + "a" * length + "A"))
            self.assertEqual(len(text) + length - 1, first_wrong(text + "a" * (length - 1)))
        for sign in " ,;>'+%\n\u00e9":
            self.assertEqual(3, first_wrong("BCa" + sign))
        for sign in NAME_SIGNS:
            self.assertIsNone(first_wrong("BCa" + sign + "A"))

    def test_names_are_different(self):
        self.assertEqual(4, first_wrong("CBaBa"))
        self.assertEqual(8, first_wrong("CDabcDabc"))
        self.assertIsNone(first_wrong("CDabcDabdA"))
        self.assertIsNone(first_wrong("BBaBBa"))
        ones = [code(1) + sign for sign in NAME_SIGNS]
        text = code(67) + "".join(ones)
        self.assertEqual(len(text), first_wrong(text + "Ba"))
        self.assertEqual(len(text) + 3, first_wrong(text + "Caa"))
        self.assertEqual(len(text) + 1, first_wrong(text + "C,"))
        twos = [code(2) + "b" + sign for sign in NAME_SIGNS]
        text = code(68) + "".join(twos)
        self.assertEqual(len(text) + 1, first_wrong(text + "Cb"))
        self.assertEqual(len(text) + 3, first_wrong(text + "Cab"))
        self.assertEqual(len(text) + 2, first_wrong(text + "Db"))
        text = code(67) + "".join(ones[:-1])
        self.assertEqual(len(text) + 1, first_wrong(text + "B0"))
        self.assertEqual(len(text) + 2, first_wrong(text + "B/"))

    def test_names_have_the_next_number(self):
        start = "CBaBbCBvBwA"
        self.assertIsNone(first_wrong(start + ">AAA'A,A>CAA'C,A.BAA'B"))
        self.assertEqual(len(start) + 1, first_wrong(start + ">CAA"))
        self.assertEqual(len(start) + 1, first_wrong(start + ">BAA"))
        self.assertEqual(len(start) + 5, first_wrong(start + ">AAA'CA"))
        self.assertEqual(len(start) + 7, first_wrong(start + ">AAA,A>EAA"))
        self.assertEqual(len(start) + 1, first_wrong(start + ">hA"))
        for many in (16, 17, 18, 19, 20, 33, 34, 35):
            text = written([("run", 0, k, f"n{k}", 0, 0) for k in range(many)]) + ",A>"
            self.assertIsNone(first_wrong(text + signed(1 - many) + "AA"))
            self.assertEqual(len(text) + (1 if many > 17 else 0), first_wrong(text + "h"))
            self.assertEqual(len(text) + (1 if many > 33 else 0), first_wrong(text + "i"))
            # The codes of 33 and 65 are refused at their first sign already.
            wrong = len(signed(-many)) - (2 if many in (17, 33) else 1)
            self.assertEqual(len(text) + wrong, first_wrong(text + signed(-many)))
            self.assertEqual(len(text), first_wrong(text + "C"))

    def test_marks_need_names(self):
        for mark in ">.":
            self.assertEqual(3, first_wrong("AAA" + mark))
            self.assertEqual(5, first_wrong("ABBwA" + mark))
        self.assertEqual(9, first_wrong("BBsAA>AAA'"))
        self.assertEqual(5, first_wrong("BBsAA'"))
        self.assertEqual(7, first_wrong("BBsBBwA'"))
        self.assertEqual(13, first_wrong("BBsBBwA>AAA'A'"))

    def test_segments_in_front_of_the_wrong_index(self):
        for text, wrong, many in (
            ("BBsAA>AAA,B,", 12, 2), ("BBsAA>AAA,B!", 11, 1), ("BBsAA>AAA!", 9, 0), ("BBsAA;B;;C;-", 11, 3),
            ("A", 1, 0),
        ):
            found = []
            with self.assertRaises(BadText) as held:
                for segment in segments_in(text):
                    found.append(segment)
            self.assertEqual((wrong, many), (held.exception.place_index, len(found)))
            self.assertEqual(wrong, first_wrong(text))


class DecoderTest(unittest.TestCase):
    def test_cut_at_every_place(self):
        for segments in CASES[:40]:
            text = written(segments, "xy", "z", 1)
            for length in range(len(text) + 1):
                decoder = Decoder()
                found = decoder.feed(text[:length])
                self.assertEqual(length, decoder.taken)
                self.assertIs(is_map_text(text[:length]), decoder.is_complete)
                found += decoder.feed(text[length:])
                self.assertEqual(len(text), decoder.taken)
                self.assertEqual(segments, found + decoder.finish())

    def test_sign_by_sign(self):
        for segments in CASES:
            text = written(segments, signs="".join(OTHER[k] for k in range(64)))
            decoder, found = Decoder(alphabet=OTHER), []
            for index, sign in enumerate(text):
                certain = decoder.feed(sign)
                self.assertEqual([] if sign not in ",;" else certain, certain)
                found += certain
            self.assertEqual(segments, found + decoder.finish())

    def test_accepts_and_follows_against_what_is_refused(self):
        for segments in CASES[::10]:
            text = written(segments, ["s", "x"], "z")
            for length in range(len(text) + 1):
                decoder = Decoder()
                decoder.feed(text[:length])
                right = []
                for sign in CHARACTERS + ["\n", "\u00e9"]:
                    wrong = first_wrong(text[:length] + sign)
                    self.assertIs(wrong is None or wrong > length, decoder.accepts(sign))
                    if decoder.accepts(sign):
                        right.append(sign)
                        decoder.copy().feed(sign)
                    else:
                        fails(self, BadText, "place_index", length, decoder.feed, sign)
                self.assertEqual("".join(right), decoder.follows())
                self.assertEqual(length, decoder.taken)

    def test_follows_of_other_alphabets(self):
        decoder = Decoder(alphabet=OTHER)
        self.assertEqual("".join(sign for sign in CHARACTERS if decoder.accepts(sign)), decoder.follows())
        self.assertIn(OTHER[0], decoder.follows())
        decoder.feed(OTHER[0] * 2)
        self.assertEqual("".join(sorted([OTHER[k] for k in range(64) if k != 32] + [";"])), decoder.follows())
        at_the_limits = Decoder()
        at_the_limits.feed("AA" + ";" * 9999 + code(FAR))
        self.assertEqual("", at_the_limits.follows())
        self.assertTrue(at_the_limits.is_complete)

    def test_accepts_no_other_values(self):
        for text in ("", "BC", "AA", "AAA", "BBsAA", "BBsAA>", "BBsBBwA>AAA"):
            decoder = Decoder()
            decoder.feed(text)
            for value in NO_TEXTS + ("AA", "", "BB", "ab", "./", ",;", ">.", 65):
                self.assertIs(False, decoder.accepts(value))

    def test_refused_pieces_change_nothing(self):
        decoder = Decoder()
        self.assertEqual([("gap", 0, 3)], decoder.feed("BBsAD,A"))
        for piece, wrong in ((",B;!", 10), ("!", 7), (">AAA;;A'", 14)):
            for _ in range(2):
                fails(self, BadText, "place_index", wrong, decoder.feed, piece)
                self.assertEqual((7, True), (decoder.taken, decoder.is_complete))
        fails(self, BadText, "place_index", None, decoder.feed, None)
        self.assertEqual([("run", 0, 4, "s", 0, 0)], decoder.feed(">AAA,"))
        fails(self, BadText, "place_index", 12, decoder.finish)
        self.assertEqual([], decoder.feed("A"))
        self.assertEqual([("gap", 0, 5)], decoder.finish())

    def test_finish_makes_it_new(self):
        decoder = Decoder()
        fails(self, BadText, "place_index", 0, decoder.finish)
        self.assertEqual((0, False), (decoder.taken, decoder.is_complete))
        for _ in range(3):
            found = decoder.feed(EXAMPLE)
            self.assertEqual(2, len(found + decoder.finish()))
            self.assertEqual((0, False, Decoder().follows()), (decoder.taken, decoder.is_complete, decoder.follows()))
        decoder.feed("AA")
        self.assertEqual([], decoder.finish())
        other = Decoder(alphabet=OTHER)
        other.feed(map_text(OWN, alphabet=OTHER))
        other.finish()
        self.assertEqual(2, len(other.feed(map_text(OWN, alphabet=OTHER)) + other.finish()))

    def test_copies_are_independent(self):
        text = written([("run", 0, 0, "s", 1, 2, "w"), ("point", 0, 3, "t", 1, 2, "v"), ("run", 1, 0, "s", 4, 4)])
        expected = list(segments_in(text))
        for length in range(len(text)):
            decoder = Decoder()
            found = decoder.feed(text[:length])
            other = decoder.copy()
            self.assertIsInstance(other, Decoder)
            rest = decoder.feed(text[length:]) + decoder.finish()
            self.assertEqual(length, other.taken)
            self.assertEqual(expected, found + rest)
            self.assertEqual(expected, found + other.feed(text[length:]) + other.finish())
        other = Decoder(alphabet=OTHER)
        self.assertEqual(other.follows(), other.copy().follows())

    def test_returned_lists_belong_to_the_caller(self):
        decoder = Decoder()
        found = decoder.feed("AAA,")
        found.clear()
        decoder.feed("A").append(1)
        self.assertEqual([("gap", 0, 1)], decoder.copy().finish())
        decoder.copy().finish().clear()
        self.assertEqual([("gap", 0, 1)], decoder.finish())


class RandomMapsTest(unittest.TestCase):
    def test_maps_with_great_numbers(self):
        chance = random.Random(41)
        for _ in range(200):
            segments = any_segments(chance)
            scale = chance.choice((1, 1000, FAR // 10))
            made = Map(*[
                row[:2] + (row[2] * scale,) + row[3:4] + tuple(number * scale for number in row[4:6]) + row[6:]
                for row in segments
            ])
            self.assertEqual(made, read_map(map_text(made)))
            self.assertEqual(list(made.pieces()), list(segments_in(map_text(made))))


if __name__ == "__main__":
    unittest.main()
