"""mapstack.session: points [59] and [60]."""

import random
import unittest

from mapstack.edits import Edit
from mapstack.errors import BadName, NothingLeft
from mapstack.session import Session
from mapstack.tools import Expanding, Stripping, Wrapping
from mapstack.trackers import Tracker
from tests.editcases import any_edit_of
from tests.support import NO_TEXTS, fails

FIRST = "text p\nlet two = 1 + 1\nx two # c"
# Each is a command as it stands; what is changed in it is none any more.
COMMANDS = ("text p\nab", "strip q", "expand q", "wrap 7 q", "edit p 0 0 0 0\nx", "undo", "redo", "show p", "trail 0 0")


def begun(*commands):
    made = Session()
    for command in (FIRST,) + commands:
        assert made.execute(command) == "ok", command
    return made


class AnswersTest(unittest.TestCase):
    def test_each_command(self):
        made = Session()
        for command, answer in (
            (FIRST, "ok"), ("show p", "let two = 1 + 1\nx two # c"), ("trail 1 2", "p 1:2"), ("strip q", "ok"),
            ("show q", "let two=1+1\nx two\n"), ("expand r", "ok"), ("show r", "x 1+1\n"), ("wrap 3 s/t.u", "ok"),
            ("show s/t.u", "x\n1+1\n"), ("trail 1 2", "s/t.u 1:2 < r 0:4 < q 1:2 < p 1:2"), ("trail 1 3", "s/t.u 1:3"),
            ("edit p 1 0 1 1\nabc\nd", "ok"), ("show p", "let two = 1 + 1\nabc\nd two # c"),
            ("trail 0 0", "s/t.u 0:0 < r 0:0 < q 1:0"), ("trail 1 0", "s/t.u 1:0 < r 0:2 < q 1:2 < p 2:2"),
            ("undo", "ok"), ("trail 0 0", "s/t.u 0:0 < r 0:0 < q 1:0 < p 1:0"), ("redo", "ok"), ("redo", "nothing"),
            ("undo", "ok"), ("undo", "ok"), ("show s/t.u", "bad name"), ("trail 0 2", "r 0:2 < q 1:2 < p 1:2"),
            ("undo", "ok"), ("undo", "ok"), ("undo", "nothing"), ("redo", "ok"), ("show q", "let two=1+1\nx two\n"),
            ("text p\n", "ok"), ("show p", ""), ("undo", "nothing"), ("redo", "nothing"), ("show q", "bad name"),
        ):
            self.assertEqual(answer, made.execute(command), command)

    def test_texts_of_commands(self):
        for text in ("", "\n", "a\nb\n", " ", "text q\nx", "\n\n", "  # \" %"):
            made = Session()
            self.assertEqual("ok", made.execute("text p\n" + text))
            self.assertEqual(text, made.execute("show p"))
            self.assertEqual("ok", made.execute("edit p 0 0 0 0\n" + text))
            self.assertEqual(text + text, made.execute("show p"))

    def test_tools(self):
        program = "let n = 1 # c\na   n  +  1n\n"
        for command, tool in (
            ("strip q", Stripping()), ("expand q", Expanding()), ("wrap 5 q", Wrapping(5)), ("wrap 1000 q", Wrapping(1000)),
        ):
            made = Session()
            self.assertEqual(["ok", "ok"], made.run(("text p\n" + program, command)))
            text, own_map = tool(program, "p")
            self.assertEqual(text, made.execute("show q"))
            self.assertEqual(own_map, made.tracker().map_of("q"))

    def test_tools_are_led_from_the_last_text(self):
        made = begun("strip a", "strip b", "wrap 1 c")
        tracker = made.tracker()
        self.assertEqual(("p", "a", "b", "c"), tracker.names())
        self.assertEqual(("a",), tracker.map_of("b").sources())
        self.assertEqual(("b",), tracker.map_of("c").sources())

    def test_trail(self):
        made = begun()
        for line, column in ((0, 0), (1, 3), (7, 0), (10 ** 9, 10 ** 9), (0, 10 ** 9)):
            self.assertEqual(f"p {line}:{column}", made.execute(f"trail {line} {column}"))
        made.execute("strip q")
        self.assertEqual("q 0:2 < p 0:2", made.execute("trail 0 2"))
        self.assertEqual("q 0:8 < p 0:10", made.execute("trail 0 8"))

    def test_edit(self):
        made = begun("strip q")
        self.assertEqual("ok", made.execute("edit p 0 3 1 2\n"))
        self.assertEqual("lettwo # c", made.execute("show p"))
        self.assertEqual("ok", made.execute("edit q 1 0 2 0\nnew"))
        self.assertEqual("let two=1+1\nnew", made.execute("show q"))
        self.assertEqual("q 1:0", made.execute("trail 1 0"))

    def test_random_sessions(self):
        """Against a tracker to which the same is done."""
        chance = random.Random(591)
        for _ in range(40):
            made, tracker = Session(), Tracker("p", "a  b # c\n1 2")
            made.execute("text p\na  b # c\n1 2")
            for _ in range(25):
                sort = chance.choice(("strip", "wrap", "expand", "edit", "edit", "edit", "undo", "redo"))
                names = tracker.names()
                if sort == "edit":
                    name = chance.choice(names)
                    edit = any_edit_of(chance, tracker.text_of(name), ("", "x", "1 2", "\n", "ab\nc"))
                    numbers = " ".join(str(number) for number in edit.low + edit.high)
                    self.assertEqual("ok", made.execute(f"edit {name} {numbers}\n{edit.fresh}"))
                    tracker.change(name, edit)
                elif sort in ("undo", "redo"):
                    try:
                        tracker.undo() if sort == "undo" else tracker.redo()
                        answer = "ok"
                    except NothingLeft:
                        answer = "nothing"
                    self.assertEqual(answer, made.execute(sort))
                else:
                    name = f"n{len(names)}"
                    tool = {"strip": Stripping(), "wrap": Wrapping(3), "expand": Expanding()}[sort]
                    command = f"wrap 3 {name}" if sort == "wrap" else f"{sort} {name}"
                    self.assertEqual("ok", made.execute(command))
                    tracker.add(name, *tool(tracker.text_of(names[-1]), names[-1]))
                self.assertTrue(tracker == made.tracker())
                for place in ((0, 0), (0, 2), (1, 1)):
                    answer = " < ".join(f"{name} {line}:{column}" for name, line, column in tracker.trail(*place))
                    self.assertEqual(answer, made.execute("trail {} {}".format(*place)))


class BadCommandTest(unittest.TestCase):
    def check_bad(self, command, made=None):
        made = made or begun("strip q")
        before = made.tracker()
        self.assertEqual("bad command", made.execute(command), command)
        self.assertTrue(before == made.tracker())

    def test_in_front_of_the_first_text(self):
        for command in COMMANDS[1:] + ("wrap 0 q", "show ", "wrap", "other", "edit p 0 0 0 0"):
            made = Session()
            self.assertEqual("bad command", made.execute(command))
            self.assertIsNone(made.tracker())
        made = Session()
        self.assertEqual(["bad command", "bad name", "bad command", "ok", "nothing"],
                         made.run(("undo", "text \n", "undo", "text p\n", "undo")))

    def test_spaces(self):
        for command in COMMANDS:
            head, feed, text = command.partition("\n")
            for wrong in (" " + head, head + " ", head.replace(" ", "  ", 1), head.replace(" ", "\t", 1) + "\t"):
                if wrong != head and wrong not in ("show p", ):
                    self.check_bad(wrong + feed + text)
        for command in ("wrap 7  q", "wrap  7 q", "edit p 0 0  0 0\nx", "edit p  0 0 0 0\nx", "trail  0 0", "trail 0  0",
                        "trail 0 0 ", " trail 0 0", "undo ", " undo", "redo ", "", " ", "  "):
            self.check_bad(command)

    def test_an_empty_word_is_a_name(self):
        for command in ("show ", "strip ", "expand ", "wrap 7 ", "text \nx", "edit  0 0 0 0\nx"):
            self.assertEqual("bad name", begun().execute(command), command)

    def test_number_of_words(self):
        for command in COMMANDS:
            head, feed, text = command.partition("\n")
            self.check_bad(head + " p" + feed + text)
            self.check_bad(head.rpartition(" ")[0] + feed + text)

    def test_texts_where_they_belong(self):
        for command in COMMANDS:
            head, feed, _ = command.partition("\n")
            if feed:
                self.check_bad(head)
            else:
                for text in ("\n", "\nx", "\n\n", "\nundo"):
                    self.check_bad(head + text)
        for command in ("text p", "edit p 0 0 0 0", "\ntext p\nx", "text\np\nx", "edit p 0 0 0\n0\nx", "undo\n", "show\np"):
            self.check_bad(command)

    def test_numbers(self):
        for number in ("00", "01", "007", "+1", "-1", "-0", "1.0", "1e3", "0x1", "1_0", "x", "", "\u0661", "\u00b2", "1000000001",
                       "9999999999", "10000000000", "1" * 5000, "0" * 30, "1,0", "one", "1\t", "None"):
            self.check_bad(f"wrap {number} r")
            for at in range(4):
                numbers = ["0"] * 4
                numbers[at] = number
                self.check_bad(f"edit p {' '.join(numbers)}\nx")
            self.check_bad(f"trail {number} 0")
            self.check_bad(f"trail 0 {number}")
        made = begun()
        for number in ("0", "10", "1000000000", "999999999"):
            self.assertEqual(f"p {number}:0", made.execute(f"trail {number} 0"))

    def test_other_words(self):
        for command in ("Text p\nx", "TEXT p\nx", "stripped q", "st q", "wrap q 7", "name", "tracker", "undo redo", "shorten q",
                        "include q", "text\n", "show", "strip", "expand", "wrap", "wrap 7", "trail", "trail 0", "edit", "edit p\nx"):
            self.check_bad(command)

    def test_other_values(self):
        for value in NO_TEXTS + (("undo",), ["undo"], b"undo"):
            self.check_bad(value)
            self.assertEqual("bad command", Session().execute(value))


class ErrorsTest(unittest.TestCase):
    def check(self, made, command, answer):
        before = made.tracker()
        self.assertEqual(answer, made.execute(command), command)
        self.assertTrue(before == made.tracker())
        self.assertEqual(before.names(), made.tracker().names())

    def test_names(self):
        made = begun("strip q")
        for name in ("p", "q", "a%", "a:b", "n" * 41, "", "\u00e4", "a+b"):
            for command in ("strip", "expand", "wrap 5"):
                self.check(made, f"{command} {name}", "bad name")
        for name in ("r", "P", "", "a%", "n" * 41):
            self.check(made, f"show {name}", "bad name")
            self.check(made, f"edit {name} 0 0 0 0\nx", "bad name")
        for name in ("", "a%", "n" * 41):
            self.check(made, f"text {name}\nx", "bad name")
        self.assertEqual("ok", made.execute("text " + "n" * 40 + "\nx"))

    def test_places(self):
        made = begun()
        for numbers in ("0 1 0 0", "1 0 0 9", "2 0 2 0", "0 16 0 16", "0 0 0 16", "1 9 1 10", "0 0 1000000000 0", "1 0 0 0"):
            self.check(made, f"edit p {numbers}\nx", "bad place")
        self.assertEqual("ok", made.execute("edit p 0 15 1 0\n "))

    def test_widths(self):
        made = begun()
        for width in ("0", "1001", "1000000000"):
            self.check(made, f"wrap {width} q", "bad place")
        self.assertEqual("ok", made.execute("wrap 1 q"))
        self.assertEqual("ok", made.execute("wrap 1000 r"))

    def test_texts(self):
        made = Session()
        made.execute("text p\nlet\n\"")
        for command in ("strip q", "expand q", "wrap 5 q"):
            self.check(made, command, "bad text")
        made.execute("text p\n" + "w" * 41)
        self.check(made, "strip q", "bad text")
        made.execute("text p\nlet x")
        self.check(made, "expand q", "bad text")
        self.assertEqual("ok", made.execute("strip q"))
        made.execute("text p\n" + "+" * 20000)
        self.assertEqual("ok", made.execute("edit p 0 0 0 0\n-"))
        self.check(made, "strip q", "bad text")
        self.check(made, "wrap 5 q", "bad text")

    def test_too_large(self):
        made = Session()
        made.execute("text p\n" + "+" * 20000)
        self.check(made, "strip q", "too large")
        made.execute("text p\nlet a = " + "+" * 9000 + "\nlet b = a a a")
        self.check(made, "expand q", "too large")
        made.execute("text p\n" + "+\n" * 5001)
        for command in ("strip q", "expand q", "wrap 5 q"):
            self.check(made, command, "too large")
        made.execute("text p\n" + "+ +\n" * 4999 + "+  +")
        self.assertEqual("ok", made.execute("wrap 9 q"))
        self.check(made, "edit p 0 1 0 2\n", "too large")
        self.check(made, "edit q 7 1 7 1\n!", "too large")
        self.assertEqual("ok", made.execute("edit p 4999 3 4999 4\n"))

    def test_order(self):
        made = Session()
        made.execute("text p\nlet\n\"")
        for command, answer in (
            ("wrap 0 p", "bad place"), ("wrap 0 a%", "bad place"), ("wrap 5 p", "bad text"), ("wrap 5 a%", "bad text"),
            ("strip p", "bad text"), ("expand ", "bad text"), ("edit a% 1 0 0 0\nx", "bad name"),
            ("edit q 9 9 9 9\nx", "bad name"), ("edit p 9 9 0 0\nx", "bad place"),
        ):
            self.check(made, command, answer)
        made.execute("text p\n" + "+" * 20000)
        self.check(made, "strip p", "too large")
        self.check(made, "strip a%", "too large")
        self.check(made, "wrap 0 p", "bad place")
        self.check(made, "wrap 9 p", "bad name")

    def test_what_fails_takes_nothing_away(self):
        made = begun("strip q")
        made.execute("undo")
        for command in ("strip p", "wrap 0 q", "edit p 9 9 9 9\nx", "edit x 0 0 0 0\n", "show q", "show p", "trail 0 0", "x",
                        "text a%\nx", None):
            made.execute(command)
        self.assertEqual(["ok", "nothing"], made.run(("redo", "redo")))


class RunTest(unittest.TestCase):
    def test_answers_in_a_list(self):
        made = Session()
        self.assertEqual([], made.run(()))
        self.assertEqual(["ok", "ab", "bad command", "bad command", "ok", "xab"],
                         made.run(commands=("text p\nab", "show p", None, "no", "edit p 0 0 0 0\nx", "show p")))
        answers = made.run(("show p",))
        answers.append("more")
        self.assertEqual(["xab"], made.run(("show p",)))

    def test_wrong_values(self):
        made = begun()
        for value in (True, None, 0, "", "undo", b"undo", [], ["undo"], {}, {"undo": 1}, object()):
            fails(self, BadName, "given", value, made.run, value)
        self.assertEqual(["bad command"] * 3, made.run((("undo",), ["undo"], 0)))
        self.assertEqual("nothing", made.execute(command="undo"))


class TrackerTest(unittest.TestCase):
    def test_none_at_first(self):
        made = Session()
        self.assertIsNone(made.tracker())
        made.run(("undo", "show p", "strip q", "text \n"))
        self.assertIsNone(made.tracker())

    def test_is_a_copy(self):
        made = begun("strip q")
        tracker = made.tracker()
        self.assertIs(Tracker, type(tracker))
        tracker.change("p", Edit((0, 0), (1, 0), ""))
        tracker.drop_last()
        self.assertEqual("let two=1+1\nx two\n", made.execute("show q"))
        other = made.tracker()
        made.execute("text r\n")
        self.assertEqual(("p", "q"), other.names())
        other.undo()
        self.assertEqual(("p",), other.names())
        self.assertEqual(("r",), made.tracker().names())


if __name__ == "__main__":
    unittest.main()
