import string
import unittest

from letforget import steps
from letforget.errors import InvalidLine, InvalidStep, KeeperError
from letforget.steps import (
    format_history, format_step, parse_history, parse_step, valid_name, valid_step,
)

# All characters that a string may contain (point 2).
SIGNS = [chr(code) for code in range(32, 127) if chr(code) != chr(37)] + ["\n"]
FIRST = string.ascii_lowercase
LATER = string.ascii_lowercase + string.digits
WORDS = ["begin", "read", "close", "quit", "write", "none"]

# Steps with their written forms.
WRITTEN = [
    (("begin", "a"), "begin a"),
    (("begin", "abcdefgh"), "begin abcdefgh"),
    (("begin", "a1b2c3d4"), "begin a1b2c3d4"),
    (("quit", "a"), "quit a"),
    (("quit", "z0000000"), "quit z0000000"),
    (("read", "a", "x"), "read a x"),
    (("read", "a", "a"), "read a a"),
    (("close", "a", ()), "close a"),
    (("close", "a", ("x",)), "close a x"),
    (("close", "a", ("a",)), "close a a"),
    (("close", "a", ("y", "x")), "close a y x"),
    (("close", "a", ("x", "y")), "close a x y"),
    (("close", "a", ("z", "x", "y", "a", "x1", "x2")), "close a z x y a x1 x2"),
    (("close", "a", tuple(WORDS)), "close a begin read close quit write none"),
]
for word in WORDS:
    WRITTEN += [
        (("begin", word), f"begin {word}"),
        (("quit", word), f"quit {word}"),
        (("read", word, "x"), f"read {word} x"),
        (("read", "a", word), f"read a {word}"),
        (("read", word, word), f"read {word} {word}"),
        (("close", word, ()), f"close {word}"),
        (("close", "a", (word,)), f"close a {word}"),
        (("close", word, (word, "x")), f"close {word} {word} x"),
    ]

BAD_NAMES = ["", "1", "1a", "A", "aB", "a b", " a", "a ", "a\n", "\na", "a-b", "a_b", "_", "abcdefghi"]

# Tuples of strings and tuples of strings that are no steps.
NO_STEPS = [
    (), ("",), ((),), ((), ()), ((), (), ()),
    ("begin",), ("read",), ("close",), ("quit",),
    ("a",), ("a", "b"), ("a", "b", "c"), ("a", "b", ("c",)),
    ("begin", "a", "b"), ("begin", "a", ()), ("begin", "a", "a"), ("begin", ("a",)), ("begin", ()), ("begin", ""),
    ("quit", "a", "b"), ("quit", "a", ()), ("quit", "a", "a"), ("quit", ("a",)), ("quit", ()), ("quit", ""),
    ("read", "a"), ("read", "a", "x", "y"), ("read", "a", "x", ()), ("read", "a", ("x",)), ("read", "a", ()),
    ("read", ("a",), "x"), ("read", (), "x"), ("read", "", "x"), ("read", "a", ""), ("read", "a", ("x", "y")),
    ("close", "a"), ("close", "a", "x"), ("close", "a", "xy"), ("close", "a", ""), ("close", "a", "x", "y"),
    ("close", "a", ("x",), ("y",)), ("close", "a", (), ()), ("close", "a", ("x",), "y"), ("close", "a", "x", ("y",)),
    ("close", ("a",), ("x",)), ("close", (), ()), ("close", ("a",), "x"), ("close", "", ("x",)),
    ("close", ("x",)), ("close", ()), ("close", ("x",), "a"),
    ("close", "a", ("x", "x")), ("close", "a", ("x", "y", "x")), ("close", "a", ("y", "x", "z", "z")),
    ("close", "a", ("",)), ("close", "a", ("x", "")), ("close", "a", ("x y",)),
    (("begin",), "a"), (("begin", "a"),), (("read",), "a", "x"), (("close",), "a", ()), (("quit",), "a"),
    ("write", "a", "x"), ("write", "a", ("x",)), ("none", "a"), ("end", "a"), ("Begin", "a"), ("BEGIN", "a"),
    ("begin ", "a"), (" begin", "a"), ("begin\n", "a"), ("begi", "a"), ("beginn", "a"), ("begin a",), ("", "a"),
    ("reads", "a", "x"), ("Read", "a", "x"), ("Close", "a", ("x",)), ("closed", "a", ("x",)), ("Quit", "a"),
    ("begin quit", "a"), ("a", "begin"), ("a", "read", "x"), ("read a", "x"), ("close a", ("x",)),
]
for name in BAD_NAMES:
    NO_STEPS += [
        ("begin", name), ("quit", name), ("read", name, "x"), ("read", "a", name), ("close", name, ()),
        ("close", name, ("x",)), ("close", "a", (name,)), ("close", "a", ("x", name)), ("close", "a", ("x", name, "y")),
    ]

# Lines that are not the written form of a step.
NO_LINES = [
    "", " ", "  ", "\n", "\n\n",
    "begin", "read", "close", "quit", "begin ", "read ", "close ", "quit ", "a", "a b", "a b c",
    "begin a b", "begin a a", "quit a b", "read a", "read a ", "read a x y", "read a x x", "close a x x",
    "close a x y x", "close a y x z z", "close  a", "close ",
    " begin a", "begin a ", "begin  a", "  begin a", "begin a  ", " begin a ",
    " quit a", "quit a ", "quit  a", " read a x", "read a x ", "read  a x", "read a  x", "read   a x",
    " close a", "close a ", "close a  ", "close  a", " close a x", "close a x ", "close a  x", "close a x  y",
    "close a x y ", "close  a x", "close a   x",
    "begin a\n", "\nbegin a", "begin\na", "begin \na", "begin a\nbegin b", "read a\nx", "read a x\n",
    "read a x\nquit a",
    "close a\n", "close a\nx", "close a x\ny", "close a x\n", "close\na", "quit\n", "quit a\n", "\n close a",
    "Begin a", "BEGIN a", "begins a", "begi a", "begina", "reada x", "read ax", "write a x", "none a", "end a",
    "Read a x", "Close a x", "Quit a", "closed a", "quits a", "close a ()", "close a, x", "('begin', 'a')",
]
for name in BAD_NAMES:
    NO_LINES += [f"begin {name}", f"quit {name}", f"read {name} x", f"read a {name}"]
    # With the two names "a" and "b" in its place a close is right again.
    if name != "a b":
        NO_LINES += [f"close {name} x", f"close a {name}", f"close a x {name}", f"close a {name} x"]


class Names(unittest.TestCase):

    def test_lengths(self):
        for length in range(0, 20):
            for sign in "az":
                with self.subTest(sign, length=length):
                    self.assertIs(valid_name(sign * length), 1 <= length <= 8)

    def test_ordinary_names(self):
        for text in ["a", "z", "m", "x1", "a0", "z9", "ab", "abcdefgh", "a1234567", "a1b2c3d4"] + WORDS:
            with self.subTest(text):
                self.assertIs(valid_name(text), True)

    def test_each_sign_at_each_place(self):
        for length in range(1, 9):
            for place in range(length):
                for sign in SIGNS:
                    text = "abcdefgh"[:length]
                    text = text[:place] + sign + text[place + 1:]
                    allowed = FIRST if place == 0 else LATER
                    with self.subTest(text):
                        self.assertIs(valid_name(text), sign in allowed)

    def test_other_texts(self):
        for text in BAD_NAMES + ["\n", " ", "0", "9", "12345678", "a\nb", "abcdefg\n", "abcdefgh\n", "a.b", "begin a"]:
            with self.subTest(text):
                self.assertIs(valid_name(text), False)


class Steps(unittest.TestCase):

    def test_each_form_is_a_step(self):
        for step, _ in WRITTEN:
            with self.subTest(step):
                self.assertIs(valid_step(step), True)

    def test_other_tuples_are_no_steps(self):
        for step in NO_STEPS:
            with self.subTest(step):
                self.assertIs(valid_step(step), False)

    def test_each_sign_in_each_name_of_a_step(self):
        for sign in SIGNS:
            name = "a" + sign
            for step in [("begin", name), ("quit", name), ("read", name, "x"), ("read", "a", name),
                         ("close", name, ("x",)), ("close", "a", (name, "x")), ("close", "a", ("x", name))]:
                with self.subTest(step):
                    self.assertIs(valid_step(step), sign in LATER)

    def test_names_are_not_counted(self):
        things = tuple(["x" + str(number) for number in range(40)])
        self.assertIs(valid_step(("close", "a", things)), True)
        self.assertIs(valid_step(("close", "a", things + ("x39",))), False)


class WrittenSteps(unittest.TestCase):

    def test_format(self):
        for step, line in WRITTEN:
            with self.subTest(line):
                self.assertEqual(format_step(step), line)

    def test_parse(self):
        for step, line in WRITTEN:
            with self.subTest(line):
                parsed = parse_step(line)
                self.assertEqual(parsed, step)
                self.assertIs(type(parsed), tuple)

    def test_format_what_is_no_step(self):
        for step in NO_STEPS:
            with self.subTest(step):
                with self.assertRaises(InvalidStep) as caught:
                    format_step(step)
                self.assertEqual(caught.exception.step, step)
                self.assertIsInstance(caught.exception, KeeperError)

    def test_parse_what_is_not_written_so(self):
        for line in NO_LINES:
            with self.subTest(line):
                with self.assertRaises(InvalidLine) as caught:
                    parse_step(line)
                self.assertEqual([caught.exception.number, caught.exception.line], [1, line])
                self.assertIsInstance(caught.exception, KeeperError)

    def test_a_sign_put_in_anywhere(self):
        # Whatever can be read is written in the same way again.
        for line in ["begin a", "read a x", "close a x yz", "quit ab", "close a"]:
            for place in range(len(line) + 1):
                for sign in SIGNS:
                    text = line[:place] + sign + line[place:]
                    try:
                        step = parse_step(text)
                    except InvalidLine as error:
                        self.assertEqual([error.number, error.line], [1, text])
                    else:
                        self.assertIn(sign, LATER + " ")
                        self.assertIs(valid_step(step), True)
                        self.assertEqual(format_step(step), text)

    def test_each_order_of_things_is_kept(self):
        self.assertEqual(format_step(("close", "p", ("c", "a", "b"))), "close p c a b")
        self.assertEqual(parse_step("close p c a b"), ("close", "p", ("c", "a", "b")))

    def test_many_things(self):
        things = tuple(["x" + str(number) for number in range(40)])
        line = "close a " + " ".join(things)
        self.assertEqual(format_step(("close", "a", things)), line)
        self.assertEqual(parse_step(line), ("close", "a", things))


class Histories(unittest.TestCase):

    def wrong_line(self, text):
        with self.assertRaises(InvalidLine) as caught:
            parse_history(text)
        return (caught.exception.number, caught.exception.line)

    def wrong_step(self, history):
        with self.assertRaises(InvalidStep) as caught:
            format_history(history)
        return caught.exception.step

    def test_the_example_of_the_document(self):
        self.assertEqual(
            parse_history("begin a\nread a x\nclose a y x"),
            [("begin", "a"), ("read", "a", "x"), ("close", "a", ("y", "x"))],
        )

    def test_the_empty_list(self):
        self.assertEqual(parse_history(""), [])
        self.assertEqual(format_history([]), "")

    def test_one_step(self):
        for step, line in WRITTEN:
            with self.subTest(line):
                self.assertEqual(parse_history(line), [step])
                self.assertEqual(format_history([step]), line)

    def test_many_steps(self):
        history = [step for step, _ in WRITTEN]
        text = "\n".join([line for _, line in WRITTEN])
        self.assertEqual(parse_history(text), history)
        self.assertEqual(format_history(history), text)

    def test_the_steps_need_not_make_sense_together(self):
        text = "quit a\nclose a\nread b x\nbegin a\nbegin a"
        history = [("quit", "a"), ("close", "a", ()), ("read", "b", "x"), ("begin", "a"), ("begin", "a")]
        self.assertEqual(parse_history(text), history)
        self.assertEqual(format_history(history), text)

    def test_newlines_at_the_ends_and_side_by_side(self):
        self.assertEqual(self.wrong_line("\n"), (1, ""))
        self.assertEqual(self.wrong_line("\n\n"), (1, ""))
        self.assertEqual(self.wrong_line("begin a\n"), (2, ""))
        self.assertEqual(self.wrong_line("\nbegin a"), (1, ""))
        self.assertEqual(self.wrong_line("begin a\n\nbegin b"), (2, ""))
        self.assertEqual(self.wrong_line("begin a\nbegin b\n"), (3, ""))
        self.assertEqual(self.wrong_line("begin a\nbegin b\n\n"), (3, ""))
        self.assertEqual(self.wrong_line(" "), (1, " "))

    def test_an_invalid_line_at_each_place(self):
        lines = ["begin a", "read a x", "begin b", "close b y x", "quit a"]
        for wrong in NO_LINES:
            if "\n" in wrong:
                continue
            for place in range(len(lines)):
                text = "\n".join(lines[:place] + [wrong] + lines[place + 1:])
                with self.subTest(text):
                    self.assertEqual(self.wrong_line(text), (place + 1, wrong))

    def test_the_first_of_two_invalid_lines(self):
        self.assertEqual(self.wrong_line("begin a\nread a\nquit a\nread  a x"), (2, "read a"))
        self.assertEqual(self.wrong_line("begin A\n"), (1, "begin A"))
        self.assertEqual(self.wrong_line("\nbegin A"), (1, ""))
        self.assertEqual(self.wrong_line("begin a\n begin b\nbegin c \nquit a"), (2, " begin b"))

    def test_a_member_that_is_no_step_at_each_place(self):
        history = [("begin", "a"), ("read", "a", "x"), ("close", "a", ("y", "x"))]
        for wrong in NO_STEPS:
            for place in range(len(history) + 1):
                with self.subTest(wrong, place=place):
                    self.assertEqual(self.wrong_step(history[:place] + [wrong] + history[place:]), wrong)

    def test_the_first_of_two_members_that_are_no_steps(self):
        self.assertEqual(self.wrong_step([("begin", "a"), ("quit",), ("read", "a", "x"), ()]), ("quit",))
        self.assertEqual(self.wrong_step([(), ("quit",)]), ())
        self.assertEqual(self.wrong_step([("begin", "a"), ("close", "a", ("x", "x")), ("read", "a")]),
                         ("close", "a", ("x", "x")))

    def test_the_bounds_of_callers_are_not_checked(self):
        # More steps, more programs and more things than point 30 allows.
        history = [("begin", "p" + str(number)) for number in range(100)]
        history = history + [("read", "p0", "x" + str(number)) for number in range(100)]
        text = format_history(history)
        self.assertEqual(text.count("\n"), 199)
        self.assertEqual(parse_history(text), history)


class NothingShared(unittest.TestCase):

    def test_a_list_that_is_passed_stays_as_it_was(self):
        history = [("begin", "a"), ("close", "a", ("y", "x"))]
        format_history(history)
        self.assertEqual(history, [("begin", "a"), ("close", "a", ("y", "x"))])

    def test_a_list_with_a_wrong_member_stays_as_it_was(self):
        history = [("begin", "a"), ("begin",), ()]
        with self.assertRaises(InvalidStep):
            format_history(history)
        self.assertEqual(history, [("begin", "a"), ("begin",), ()])

    def test_each_returned_list_is_new(self):
        for text in ["", "begin a\nclose a y x"]:
            first = parse_history(text)
            second = parse_history(text)
            self.assertIsNot(first, second)
            self.assertEqual(first, second)
            first.append(("quit", "b"))
            first.reverse()
            self.assertEqual(parse_history(text), second)

    def test_a_list_changed_later_does_not_change_the_text(self):
        history = [("begin", "a")]
        text = format_history(history)
        history.append(("quit", "a"))
        self.assertEqual(text, "begin a")
        self.assertEqual(format_history(history), "begin a\nquit a")


class Place(unittest.TestCase):

    def test_everything_is_defined_in_this_file(self):
        for function in [valid_name, valid_step, format_step, parse_step, format_history, parse_history]:
            self.assertEqual(function.__module__, "letforget.steps")
            self.assertIs(getattr(steps, function.__name__), function)


if __name__ == "__main__":
    unittest.main()
