import unittest

from letforget import keeper as module
from letforget.errors import InvalidLine, InvalidStep, KeeperError, NotHeld, NotRunning, Refused, Ring, Taken
from letforget.keeper import Keeper
from letforget.marks import Mark
from letforget.memory import Memory
from letforget.steps import parse_history, parse_step
from tests.model import parts, told
from tests.test_steps import NO_STEPS

# Words of steps and marks, which are names as well.
WORD_NAMES = ["begin", "read", "close", "quit", "write", "none"]


def touches(keeper, program):
    return [(thing, mark.word) for thing, mark in keeper[program]]


class Checks(unittest.TestCase):

    def lets(self, keeper, line, clashes):
        """Check that a step is let, with these clashes, ascending."""
        found = keeper(parse_step(line))
        self.assertIsInstance(found, list)
        self.assertEqual(found, clashes)

    def error_of(self, kind, call, *arguments):
        with self.assertRaises(KeeperError) as caught:
            call(*arguments)
        self.assertIs(type(caught.exception), kind)
        return caught.exception

    def raises(self, keeper, step, kind):
        """Check that a step raises an error and changes nothing."""
        before = told(keeper)
        error = self.error_of(kind, keeper, step)
        self.assertEqual(told(keeper), before)
        return error

    def refuses(self, keeper, line, *rings):
        step = parse_step(line)
        error = self.raises(keeper, step, Refused)
        self.check_refused(error, step, *rings)

    def check_refused(self, error, step, *rings):
        self.assertEqual(error.step, step)
        self.assertIsInstance(error.ring, list)
        self.assertIn(error.ring, rings)
        self.assertIs(type(error.__cause__), Ring)
        self.assertIsInstance(error.__cause__.programs, list)
        self.assertEqual(error.__cause__.programs, error.ring)
        self.assertIsNot(error.__cause__.programs, error.ring)


class NewKeeper(Checks):

    def test_it_holds_nothing(self):
        keeper = Keeper()
        self.assertEqual(told(keeper), (12, [], [], [], [], [], [], ([], [], []), []))
        self.assertIs("a" in keeper, False)
        self.assertIs(type(keeper), Keeper)

    def test_each_is_defined_in_its_own_file(self):
        self.assertEqual(Keeper.__module__, "letforget.keeper")
        listed = ["of", "read", "__init__", "__call__", "__contains__", "__getitem__", "__iter__", "__ior__", "running",
                  "limit", "set_limit", "arcs", "order", "memory", "needs", "may_forget", "forget", "without", "lots",
                  "fewest", "trial", "MOST"]
        for name in listed:
            self.assertIn(name, vars(Keeper))
        self.assertIs(module.Keeper, Keeper)

    def test_two_keepers_share_nothing(self):
        one, other = Keeper(), Keeper()
        one |= parse_history("begin a\nread a x\nclose a y")
        self.assertEqual(told(other), told(Keeper()))


class Begin(Checks):

    def test_a_begin_adds_a_running_program(self):
        keeper = Keeper.read("begin c\nread c x\nbegin b\nclose b x")
        self.lets(keeper, "begin a", [])
        self.assertEqual(keeper.running, ["a", "c"])
        self.assertEqual(list(keeper), ["b"])
        self.assertEqual(keeper["a"], [])
        self.assertEqual(keeper.arcs(), [("c", "b")])

    def test_taken_by_a_running_and_by_an_ended_program(self):
        keeper = Keeper.read("begin a\nbegin b\nclose b")
        for program in ["a", "b"]:
            error = self.raises(keeper, ("begin", program), Taken)
            self.assertEqual(error.program, program)

    def test_a_name_begins_again_behind_a_quit(self):
        keeper = Keeper.read("begin w\nbegin a\nread a x\nclose w x y\nquit a")
        self.lets(keeper, "begin a", [])
        self.assertEqual([keeper.running, keeper["a"], keeper.arcs()], [["a"], [], []])
        self.lets(keeper, "read a y", ["w"])
        self.assertEqual(keeper.arcs(), [("w", "a")])

    def test_a_name_begins_again_behind_a_forgetting(self):
        keeper = Keeper.read("begin a\nread a x\nclose a y\nbegin b\nread b y")
        self.raises(keeper, ("begin", "a"), Taken)
        keeper.forget(["a"])
        self.lets(keeper, "begin a", [])
        self.assertEqual([keeper.running, keeper["a"], keeper.arcs()], [["a", "b"], [], []])
        self.lets(keeper, "read a y", [])
        self.lets(keeper, "close a y", ["b"])
        self.assertEqual([list(keeper), keeper.arcs()], [["a"], [("b", "a")]])

    def test_a_name_begins_again_behind_a_close_that_makes_the_keeper_forget_it(self):
        keeper = Keeper(limit=0)
        keeper |= parse_history("begin a\nclose a x\nbegin a\nread a x\nclose a")
        self.assertEqual(told(keeper), (0,) + told(Keeper())[1:])


class Read(Checks):

    def test_a_read_clashes_with_each_writer_of_the_thing(self):
        keeper = Keeper.read(
            "begin c\nclose c x\nbegin b\nclose b x y\nbegin d\nread d x\nclose d\nbegin e\nclose e y\n"
            "begin f\nread f x\nbegin a"
        )
        self.assertEqual(keeper.arcs(), [("b", "d"), ("b", "e"), ("b", "f"), ("c", "b"), ("c", "d"), ("c", "f")])
        self.lets(keeper, "read a x", ["b", "c"])
        self.assertEqual([arc for arc in keeper.arcs() if arc[1] == "a"], [("b", "a"), ("c", "a")])
        self.assertEqual(touches(keeper, "a"), [("x", "read")])

    def test_a_read_without_clashes(self):
        keeper = Keeper.read("begin a\nbegin b\nread b x\nbegin c\nread c x\nclose c y")
        self.lets(keeper, "read a x", [])
        self.lets(keeper, "read a x", [])
        self.assertEqual(keeper.arcs(), [])
        self.assertEqual(touches(keeper, "a"), [("x", "read")])

    def test_the_list_is_the_same_when_the_arcs_are_there_already(self):
        keeper = Keeper.read("begin w\nclose w x y\nbegin v\nclose v y\nbegin a")
        arcs = keeper.arcs()
        self.lets(keeper, "read a y", ["v", "w"])
        self.assertEqual(keeper.arcs(), sorted(arcs + [("v", "a"), ("w", "a")]))
        self.lets(keeper, "read a x", ["w"])
        self.lets(keeper, "read a y", ["v", "w"])
        self.assertEqual(keeper.arcs(), sorted(arcs + [("v", "a"), ("w", "a")]))
        self.assertEqual(touches(keeper, "a"), [("x", "read"), ("y", "read")])

    def test_ascending_is_the_order_of_strings(self):
        keeper = Keeper.read("begin p9\nclose p9 x\nbegin p10\nclose p10 x\nbegin p\nclose p x\nbegin a")
        self.lets(keeper, "read a x", ["p", "p10", "p9"])
        self.assertEqual(keeper.arcs(), [("p", "a"), ("p10", "a"), ("p10", "p"), ("p9", "a"), ("p9", "p"),
                                         ("p9", "p10")])


class Close(Checks):

    def test_a_close_clashes_with_each_one_that_has_touched_one_of_the_things(self):
        keeper = Keeper.read(
            "begin d\nread d x\nbegin c\nclose c y\nbegin f\nread f x\nclose f z\nbegin b\nread b u\nbegin a\nread a x"
        )
        self.lets(keeper, "close a y x", ["c", "d", "f"])
        self.assertEqual(keeper.arcs(), [("c", "a"), ("d", "a"), ("f", "a")])
        self.assertEqual(touches(keeper, "a"), [("x", "write"), ("y", "write")])
        self.assertEqual([keeper.running, list(keeper)], [["b", "d"], ["c", "f", "a"]])

    def test_a_close_never_clashes_with_its_own_program(self):
        keeper = Keeper.read("begin a\nread a x\nread a y")
        self.lets(keeper, "close a x", [])
        self.assertEqual(keeper.arcs(), [])
        self.assertEqual(touches(keeper, "a"), [("x", "write"), ("y", "read")])

    def test_a_close_of_nothing(self):
        keeper = Keeper.read("begin b\nread b x\nbegin c\nclose c x\nbegin a\nread a z")
        self.lets(keeper, "close a", [])
        self.assertEqual([keeper.running, list(keeper)], [["b"], ["c", "a"]])
        self.assertEqual([touches(keeper, "a"), keeper.arcs()], [[("z", "read")], [("b", "c")]])

    def test_one_that_has_touched_many_of_the_things_is_named_once(self):
        keeper = Keeper.read("begin b\nread b x\nread b y\nclose b z\nbegin a")
        self.lets(keeper, "close a z y x", ["b"])
        self.assertEqual(keeper.arcs(), [("b", "a")])
        self.assertEqual(touches(keeper, "a"), [("x", "write"), ("y", "write"), ("z", "write")])

    def test_the_list_is_the_same_when_the_arc_is_there_already(self):
        keeper = Keeper.read("begin b\nclose b x\nbegin a\nread a x")
        self.lets(keeper, "close a x", ["b"])
        self.assertEqual(keeper.arcs(), [("b", "a")])

    def test_the_order_of_ending(self):
        keeper = Keeper.read("begin a\nbegin b\nbegin c\nclose b x\nclose c\nclose a x")
        self.assertEqual(list(keeper), ["b", "c", "a"])
        self.assertEqual([name for name in keeper], ["b", "c", "a"])
        self.assertEqual([*keeper], ["b", "c", "a"])


class Quit(Checks):

    def test_a_quit_removes_all_of_its_program(self):
        keeper = Keeper.read("begin w\nclose w x\nbegin a\nread a x\nread a y\nbegin b\nread b y\nbegin v\nclose v y")
        self.assertEqual(keeper.arcs(), [("a", "v"), ("b", "v"), ("w", "a")])
        self.lets(keeper, "quit a", [])
        self.assertEqual(keeper.arcs(), [("b", "v")])
        self.assertEqual([keeper.running, list(keeper)], [["b"], ["w", "v"]])
        self.assertIs("a" in keeper, False)
        self.assertEqual(self.error_of(NotHeld, keeper.__getitem__, "a").program, "a")
        self.lets(keeper, "begin c", [])
        self.lets(keeper, "close c y", ["b", "v"])

    def test_no_arc_bridges_a_program_that_has_quit(self):
        keeper = Keeper.read("begin w\nclose w x\nbegin a\nread a x\nread a y\nbegin b\nclose b y\nquit a")
        self.assertEqual(keeper.arcs(), [])


class Refusals(Checks):

    def test_a_ring_of_two_over_an_ended_program(self):
        keeper = Keeper.read("begin a\nread a x\nbegin b\nclose b x y")
        self.refuses(keeper, "read a x", ["a", "b"])
        self.refuses(keeper, "read a y", ["a", "b"])
        self.refuses(keeper, "close a x", ["a", "b"])
        self.refuses(keeper, "close a z y", ["a", "b"])

    def test_a_ring_over_two_arcs_and_an_ended_program(self):
        keeper = Keeper.read("begin a\nread a x\nbegin b\nread b y\nclose b x\nbegin c\nclose c y z")
        self.assertEqual(keeper.arcs(), [("a", "b"), ("b", "c")])
        self.refuses(keeper, "read a z", ["a", "b", "c"])
        self.refuses(keeper, "read a y", ["a", "b", "c"])
        self.refuses(keeper, "close a z", ["a", "b", "c"])
        self.refuses(keeper, "close a y", ["a", "b"])

    def test_a_ring_that_ends_with_a_running_program(self):
        keeper = Keeper.read("begin a\nread a x\nbegin w\nclose w x z\nbegin b\nread b z\nread b y")
        self.assertEqual(keeper.arcs(), [("a", "w"), ("w", "b")])
        self.refuses(keeper, "close a y", ["a", "w", "b"])
        self.refuses(keeper, "close a y x", ["a", "w"])
        self.lets(keeper, "read a y", [])

    def test_a_ring_over_three_and_four_arcs(self):
        keeper = Keeper.read(
            "begin a\nread a t\nbegin b\nread b u\nclose b t\nbegin c\nread c v\nclose c u\nbegin d\nclose d v w\n"
            "begin e\nread e w\nread e x"
        )
        self.assertEqual(keeper.arcs(), [("a", "b"), ("b", "c"), ("c", "d"), ("d", "e")])
        self.refuses(keeper, "read a w", ["a", "b", "c", "d"])
        self.refuses(keeper, "close a x", ["a", "b", "c", "d", "e"])

    def test_a_ring_over_a_running_program_in_the_middle(self):
        keeper = Keeper.read(
            "begin a\nread a t\nbegin b\nclose b t u\nbegin c\nread c u\nread c v\nbegin d\nclose d v w"
        )
        self.assertEqual(keeper.arcs(), [("a", "b"), ("b", "c"), ("c", "d")])
        self.refuses(keeper, "read a w", ["a", "b", "c", "d"])
        self.lets(keeper, "quit c", [])
        self.lets(keeper, "read a w", ["d"])

    def test_no_path_has_fewer_programs(self):
        # Two ways from a to what has written z: over b and c, and over d alone.
        keeper = Keeper.read(
            "begin a\nread a t\nread a v\nbegin b\nread b u\nclose b t\nbegin c\nclose c u x\nbegin d\nread d x\n"
            "close d v z"
        )
        self.assertEqual(keeper.arcs(), [("a", "b"), ("a", "d"), ("b", "c"), ("c", "d")])
        self.refuses(keeper, "read a z", ["a", "d"])
        self.refuses(keeper, "read a x", ["a", "b", "c"])
        self.refuses(keeper, "close a u", ["a", "b"])

    def test_one_of_several_rings(self):
        keeper = Keeper.read("begin a\nread a x\nbegin b\nclose b x\nbegin c\nclose c x")
        self.refuses(keeper, "read a x", ["a", "b"], ["a", "c"])

    def test_a_path_that_leads_to_the_program_is_no_ring(self):
        keeper = Keeper.read("begin b\nclose b x\nbegin a\nread a x")
        self.lets(keeper, "read a x", ["b"])
        self.lets(keeper, "close a x", ["b"])

    def test_clashes_and_paths_are_judged_before_the_step(self):
        # The close draws arcs from b and c to a; they make no ring, though b leads to c.
        keeper = Keeper.read("begin b\nread b y\nread b x\nbegin c\nclose c y x\nbegin a")
        self.assertEqual(keeper.arcs(), [("b", "c")])
        self.lets(keeper, "close a x y", ["b", "c"])
        self.assertEqual(keeper.arcs(), [("b", "a"), ("b", "c"), ("c", "a")])

    def test_the_program_of_a_refused_step_goes_on(self):
        keeper = Keeper.read("begin a\nread a x\nbegin b\nclose b x")
        self.refuses(keeper, "read a x", ["a", "b"])
        self.lets(keeper, "read a y", [])
        self.refuses(keeper, "close a x", ["a", "b"])
        self.lets(keeper, "close a y", [])
        self.assertEqual(touches(keeper, "a"), [("x", "read"), ("y", "write")])
        self.assertEqual([list(keeper), keeper.arcs()], [["b", "a"], [("a", "b")]])

    def test_begins_quits_and_closes_of_nothing_are_never_refused(self):
        for end, ended in [("quit a", ["b"]), ("close a", ["b", "a"])]:
            keeper = Keeper.read("begin a\nread a x\nbegin b\nclose b x")
            self.lets(keeper, "begin c", [])
            self.lets(keeper, end, [])
            self.assertEqual(list(keeper), ended)


class Errors(Checks):

    def test_what_is_no_step(self):
        for keeper in [Keeper(), Keeper.read("begin a\nread a x\nbegin b\nclose b x")]:
            for step in NO_STEPS:
                with self.subTest(step):
                    self.assertEqual(self.raises(keeper, step, InvalidStep).step, step)

    def test_no_step_comes_first(self):
        keeper = Keeper.read("begin a\nread a x\nbegin b\nclose b x")
        for step in [("begin", "a", "a"), ("begin", "b", ()), ("read", "c", "X"), ("read", "a", ("x",)),
                     ("close", "a", ("x", "x")), ("close", "b", ("x", "x")), ("quit", "c", ())]:
            self.assertEqual(self.raises(keeper, step, InvalidStep).step, step)

    def test_not_running(self):
        keeper = Keeper.read("begin a\nread a x\nbegin b\nclose b x\nbegin q\nquit q")
        for program in ["b", "q", "x", "ab"]:
            for step in [("read", program, "x"), ("close", program, ()), ("close", program, ("x",)), ("quit", program)]:
                self.assertEqual(self.raises(keeper, step, NotRunning).program, program)
        keeper.forget([])
        self.assertEqual(self.raises(keeper, ("quit", "b"), NotRunning).program, "b")

    def test_a_forgotten_program_is_not_running(self):
        keeper = Keeper.read("begin b\nclose b x")
        keeper.forget(["b"])
        self.assertEqual(self.raises(keeper, ("close", "b", ("x",)), NotRunning).program, "b")


class Asking(Checks):

    def test_held(self):
        keeper = Keeper.read("begin a\nread a x\nbegin b\nclose b x\nbegin c\nquit c")
        self.assertIs("a" in keeper, True)
        self.assertIs("b" in keeper, True)
        for text in ["c", "x", "", "A", "ab", "No Name", "begin a", "a\n"]:
            self.assertIs(text in keeper, False)
        self.assertIs("b" not in keeper, False)

    def test_touches(self):
        keeper = Keeper.read("begin a\nread a y\nread a x9\nread a x10\nbegin b\nread b x\nclose b z x")
        found = keeper["a"]
        self.assertIsInstance(found, list)
        self.assertEqual([thing for thing, _ in found], ["x10", "x9", "y"])
        for pair in found + keeper["b"]:
            self.assertIsInstance(pair, tuple)
            self.assertIs(type(pair[1]), Mark)
        self.assertEqual(touches(keeper, "b"), [("x", "write"), ("z", "write")])
        self.assertEqual(keeper["b"], [("x", Mark("write")), ("z", Mark("write"))])
        self.assertEqual(Keeper.read("begin a\nclose a")["a"], [])

    def test_not_held(self):
        keeper = Keeper.read("begin a\nread a x\nbegin c\nquit c")
        for text in ["c", "x", "", "A", "ab", "No Name", "begin a", "a\n"]:
            self.assertEqual(self.error_of(NotHeld, keeper.__getitem__, text).program, text)

    def test_running_is_ascending(self):
        keeper = Keeper.read("begin p9\nbegin p10\nbegin b\nbegin p\nclose b")
        self.assertEqual(keeper.running, ["p", "p10", "p9"])

    def test_programs_and_things_with_the_words_of_steps_and_marks(self):
        keeper = Keeper.of([("begin", name) for name in WORD_NAMES])
        for name, thing in zip(WORD_NAMES, WORD_NAMES[1:] + WORD_NAMES[:1]):
            self.assertEqual(keeper(("read", name, thing)), [])
        self.assertEqual(keeper.running, sorted(WORD_NAMES))
        self.lets(keeper, "close close close", ["read"])
        self.refuses(keeper, "read read close", ["read", "close"])
        self.lets(keeper, "close begin begin write", ["none", "quit"])
        self.lets(keeper, "read write close", ["close"])
        self.refuses(keeper, "close quit write", ["quit", "begin"])
        self.lets(keeper, "quit quit", [])
        self.assertEqual(keeper.arcs(), [("close", "write"), ("none", "begin"), ("read", "close")])
        self.assertEqual(touches(keeper, "close"), [("close", "write"), ("quit", "read")])
        self.assertEqual(touches(keeper, "begin"), [("begin", "write"), ("read", "read"), ("write", "write")])
        self.assertEqual(keeper.memory().running, ["none", "read", "write"])
        self.assertEqual(keeper.needs(), [("none", "begin", ["begin"]), ("none", "read", ["begin"]),
                                          ("none", "write", ["begin"]), ("read", "close", ["close"]),
                                          ("read", "quit", ["close"])])

    def test_names_of_which_one_begins_another_one(self):
        keeper = Keeper.read("begin a\nbegin ab\nread a bc\nread ab c\nbegin abc\nread abc b\nclose abc bc")
        self.assertEqual(keeper.arcs(), [("a", "abc")])
        self.assertEqual([touches(keeper, "a"), touches(keeper, "ab")], [[("bc", "read")], [("c", "read")]])
        self.lets(keeper, "close ab b", ["abc"])
        self.assertEqual(keeper.arcs(), [("a", "abc"), ("abc", "ab")])
        self.refuses(keeper, "close a c", ["a", "abc", "ab"])
        self.lets(keeper, "quit a", [])
        self.assertEqual(list(keeper), ["abc", "ab"])


class Order(Checks):

    def test_without_arcs_it_is_the_order_of_ending(self):
        keeper = Keeper.read("begin a\nbegin b\nbegin c\nclose b x\nclose c y\nclose a z")
        self.assertEqual(keeper.order(), ["b", "c", "a"])
        self.assertEqual(Keeper.read("begin a").order(), [])

    def test_arcs_go_before_the_order_of_ending(self):
        # a read x before b wrote it, and ended later.
        keeper = Keeper.read("begin a\nread a x\nbegin b\nclose b x\nclose a y")
        self.assertEqual([list(keeper), keeper.order()], [["b", "a"], ["a", "b"]])

    def test_the_first_one_that_ended_among_the_free_ones(self):
        # c stands behind d, which ended last; b ended behind c and is free at once.
        keeper = Keeper.read("begin d\nread d x\nbegin c\nclose c x\nbegin b\nclose b y\nclose d z")
        self.assertEqual([list(keeper), keeper.order()], [["c", "b", "d"], ["b", "d", "c"]])
        # Once d is taken, c goes ahead of e, which ended later.
        keeper = Keeper.read("begin d\nread d x\nbegin c\nclose c x\nclose d z\nbegin e\nclose e y")
        self.assertEqual([list(keeper), keeper.order()], [["c", "d", "e"], ["d", "c", "e"]])

    def test_paths_over_running_programs_do_not_count(self):
        # e1 leads to e2 over the running program r alone; e2 ended first.
        keeper = Keeper.read("begin r\nread r x\nbegin e1\nbegin e2\nclose e2 x\nclose e1 y\nread r y")
        self.assertEqual(keeper.arcs(), [("e1", "r"), ("r", "e2")])
        self.assertEqual([list(keeper), keeper.order()], [["e2", "e1"], ["e2", "e1"]])

    def test_with_lots_left_out(self):
        keeper = Keeper.read(
            "begin a\nread a x\nbegin b\nread b y\nclose b x\nbegin c\nclose c y\nclose a z\nbegin d\nclose d"
        )
        self.assertEqual([list(keeper), keeper.order()], [["b", "c", "a", "d"], ["a", "b", "c", "d"]])
        for lot, order in [(["b"], ["a", "c", "d"]), (["a"], ["b", "c", "d"]), (["c"], ["a", "b", "d"]),
                           (["d"], ["a", "b", "c"]), (["b", "c"], ["a", "d"]), (["a", "b", "c", "d"], [])]:
            self.assertEqual(keeper.without(lot).order(), order)


class Histories(Checks):

    GOOD = "begin a\nread a x\nbegin b\nclose b x"
    WRONG = [
        (("begin",), InvalidStep), ((), InvalidStep), (("begin", "a"), Taken), (("begin", "b"), Taken),
        (("quit", "b"), NotRunning), (("read", "c", "x"), NotRunning), (("read", "a", "x"), Refused),
        (("close", "a", ("y", "x")), Refused),
    ]

    def test_of(self):
        self.assertEqual(told(Keeper.of([])), told(Keeper()))
        keeper = Keeper()
        for step in parse_history(self.GOOD):
            keeper(step)
        for found in [Keeper.of(parse_history(self.GOOD)), Keeper.read(self.GOOD)]:
            self.assertIs(type(found), Keeper)
            self.assertEqual(told(found), told(keeper))

    def test_of_raises_the_first_error(self):
        good = parse_history(self.GOOD)
        for wrong, kind in self.WRONG:
            for later, _ in self.WRONG:
                error = self.error_of(kind, Keeper.of, good + [wrong, ("begin", "c"), later])
                if kind is Refused:
                    self.check_refused(error, wrong, ["a", "b"])

    def test_of_takes_thirteen_ended_programs_as_far_as_the_limit_lets_it(self):
        steps = [("begin", "r"), ("read", "r", "x")]
        for number in range(13):
            steps += [("begin", f"e{number}"), ("close", f"e{number}", ("x",))]
        # Each later writer is led to as well: so the first one goes.
        self.assertEqual(list(Keeper.of(steps)), [f"e{number}" for number in range(1, 13)])

    def test_read(self):
        self.assertEqual(told(Keeper.read("")), told(Keeper()))
        for text, number, line in [("begin a\n", 2, ""), ("begin a\nread a", 2, "read a"), (" begin a", 1, " begin a"),
                                   ("begin a\n\nquit a", 2, ""), ("\n", 1, "")]:
            error = self.error_of(InvalidLine, Keeper.read, text)
            self.assertEqual([error.number, error.line], [number, line])
        self.assertEqual(self.error_of(NotRunning, Keeper.read, "begin a\nquit b").program, "b")

    def test_an_invalid_line_behind_a_wrong_step(self):
        for wrong in ["begin a", "quit b", "read c x"]:
            error = self.error_of(InvalidLine, Keeper.read, f"begin a\n{wrong}\nclose a x x")
            self.assertEqual([error.number, error.line], [3, "close a x x"])

    def test_an_invalid_line_ahead_of_a_wrong_step(self):
        error = self.error_of(InvalidLine, Keeper.read, "begin a\nread a  x\nbegin a\nread")
        self.assertEqual([error.number, error.line], [2, "read a  x"])

    def test_all_steps(self):
        keeper = same = Keeper.read("begin a")
        keeper |= parse_history("read a x\nbegin b\nclose b x")
        self.assertIs(keeper, same)
        self.assertEqual(told(keeper), told(Keeper.read(self.GOOD)))
        keeper |= []
        self.assertIs(keeper, same)
        self.assertEqual(told(keeper), told(Keeper.read(self.GOOD)))

    def test_all_steps_or_none(self):
        good = parse_history("begin c\nread a z\nread c x\nclose c z\nbegin d\nquit d")
        for wrong, kind in self.WRONG:
            for later, _ in self.WRONG:
                for at in range(len(good) + 1):
                    keeper = same = Keeper.read(self.GOOD)
                    before = told(keeper)
                    steps = good[:at] + [wrong] + good[at:] + [later]
                    with self.assertRaises(KeeperError) as caught:
                        keeper |= steps
                    self.assertIs(keeper, same)
                    self.assertEqual(told(keeper), before)
                    if wrong[:2] != ("read", "c"):
                        self.assertIs(type(caught.exception), kind)

    def test_the_error_of_the_first_wrong_step(self):
        keeper = Keeper.read(self.GOOD)
        with self.assertRaises(NotRunning) as caught:
            keeper |= [("begin", "c"), ("quit", "z"), ("begin",)]
        self.assertEqual(caught.exception.program, "z")
        with self.assertRaises(Refused) as caught:
            keeper |= [("begin", "c"), ("close", "a", ("y", "x")), ()]
        self.check_refused(caught.exception, ("close", "a", ("y", "x")), ["a", "b"])
        self.assertIs("c" in keeper, False)
        self.lets(keeper, "begin c", [])

    def test_the_list_stays_as_it_was(self):
        keeper = Keeper()
        steps = parse_history(self.GOOD)
        before = list(steps)
        keeper |= steps
        Keeper.of(steps)
        self.assertEqual(steps, before)
        steps.clear()
        self.assertEqual(told(keeper), told(Keeper.read(self.GOOD)))


class MemoryOfAKeeper(Checks):

    def test_leads_and_marks(self):
        keeper = Keeper.read(
            "begin a\nread a x\nread a o\nbegin b\nread b v\nclose b x y\nbegin c\nread c y\nread c x\nbegin d\nread d w\n"
            "begin e\nread e u\nclose e w v"
        )
        self.assertEqual(keeper.arcs(), [("a", "b"), ("b", "c"), ("b", "e"), ("d", "e")])
        memory = keeper.memory()
        self.assertIsInstance(memory, Memory)
        self.assertEqual(memory.running, ["a", "c", "d"])
        self.assertEqual(memory.leads, [("a", "c")])
        self.assertEqual(memory.marks, [
            ("a", "o", "own"), ("a", "u", "read"), ("a", "v", "write"), ("a", "w", "write"), ("a", "x", "write"),
            ("a", "y", "write"), ("c", "x", "own"), ("c", "y", "own"), ("d", "u", "read"), ("d", "v", "write"),
            ("d", "w", "write"),
        ])

    def test_a_path_over_a_running_program_does_not_lead(self):
        keeper = Keeper.read(
            "begin a\nread a t\nbegin b\nclose b t u\nbegin c\nread c u\nread c v\nbegin d\nclose d v w"
        )
        self.assertEqual(keeper.memory().leads, [("a", "c")])
        self.assertEqual(keeper.memory().mark("a", "w"), Mark("none"))
        self.assertEqual(keeper.memory().mark("c", "w"), Mark("write"))
        self.assertEqual(keeper.memory().mark("a", "v"), Mark("none"))

    def test_the_memory_stays_when_the_keeper_goes_on(self):
        keeper = Keeper.read("begin a\nread a x")
        memory = keeper.memory()
        keeper(("quit", "a"))
        self.assertEqual(parts(memory), (["a"], [], [("a", "x", "own")]))

    def test_the_steps_of_the_document(self):
        keeper = Keeper.read("begin a\nread a x\nbegin b\nclose b x y\nbegin c\nread c y")
        self.assertEqual(keeper.memory().lines(), [
            "program         x        y", "a           write    write", "c               -      own", "a leads to c",
        ])


class DocumentExample(unittest.TestCase):

    def test_keeper(self):
        keeper = Keeper.read("begin a\nread a x\nbegin b\nclose b x y\nbegin c\nread c y\nclose c")
        self.assertEqual(
            [keeper.arcs(), keeper.needs(), keeper.may_forget(["c"]), keeper.may_forget(["b"])],
            [[("a", "b"), ("b", "c")], [("a", "x", ["b"]), ("a", "y", ["b"])], True, False],
        )


if __name__ == "__main__":
    unittest.main()
