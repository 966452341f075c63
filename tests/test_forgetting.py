import itertools
import types
import unittest

from letforget.errors import InvalidLot, KeeperError, Needed, NotRunning, Refused
from letforget.keeper import Keeper
from letforget.steps import parse_history, parse_step
from tests.model import all_lots, lists_in, parts, told

# The running program r leads to e1 (x read, y written) and e2 (x and z written); e3 has no need.
HISTORY = (
    "begin r\nread r y\nread r z\nbegin e1\nread e1 x\nclose e1 y\nbegin e2\nclose e2 x z\n"
    "begin e3\nread e3 u\nclose e3 v"
)


def is_test(future, running):
    """Tell whether a list of steps has the form of a test (point 21)."""
    if not isinstance(future, list) or not future:
        return False
    quits, last = future[:-1], future[-1]
    names = [step[1] for step in quits]
    right_quits = all(step == ("quit", step[1]) and step[1] in running for step in quits)
    one_thing = last[0] == "read" or (last[0] == "close" and len(last[2]) == 1)
    return right_quits and len(set(names)) == len(names) and one_thing and last[1] in set(running) - set(names)


def verdict(taker, step):
    """Tell whether a keeper lets a step, None if it is neither let nor refused."""
    try:
        taker(step)
    except (Refused, NotRunning):
        return False
    except KeeperError:
        return None
    return True


def parts_keepers(future, one, other):
    """Tell whether a list of steps parts two keepers."""
    one, other = one.without([]), other.without([])
    before = [(verdict(one, step), verdict(other, step)) for step in future[:-1]]
    last = (verdict(one, future[-1]), verdict(other, future[-1]))
    return all(pair == (True, True) for pair in before) and last in [(True, False), (False, True)]


def all_tests(keeper):
    """Give each test of a keeper, the shorter ones first."""
    things = sorted({thing for name in keeper.running + list(keeper) for thing, _ in keeper[name]} | {"fresh"})
    for many in range(len(keeper.running)):
        for gone in itertools.combinations(keeper.running, many):
            for program in keeper.running:
                if program not in gone:
                    for thing in things:
                        yield [("quit", name) for name in gone] + [("read", program, thing)]
                        yield [("quit", name) for name in gone] + [("close", program, (thing,))]


class Checks(unittest.TestCase):

    def error_of(self, kind, call, *arguments):
        with self.assertRaises(KeeperError) as caught:
            call(*arguments)
        self.assertIs(type(caught.exception), kind)
        return caught.exception

    def check_needed(self, keeper, lot):
        """Check that a lot may not go, and the test that `Needed` gives."""
        before, rest = told(keeper), keeper.without(lot)
        self.assertIs(keeper.may_forget(lot), False)
        passed = list(lot)
        error = self.error_of(Needed, keeper.forget, passed)
        self.assertEqual(told(keeper), before)
        self.assertEqual([passed, error.lot], [lot, lot])
        self.assertIsNot(error.lot, passed)
        self.assertTrue(is_test(error.future, keeper.running))
        self.assertTrue(parts_keepers(error.future, keeper, rest))
        for future in all_tests(keeper):
            if len(future) >= len(error.future):
                break
            self.assertFalse(parts_keepers(future, keeper, rest))
        return error.future

    def check_free(self, keeper, lot):
        """Check that a lot may go, and that the keeper forgets it."""
        memory = parts(keeper.memory())
        rest = keeper.without(lot)
        self.assertIs(keeper.may_forget(lot), True)
        self.assertIs(keeper.forget(lot), None)
        self.assertEqual(told(keeper), told(rest))
        self.assertEqual(parts(keeper.memory()), memory)
        for name in lot:
            self.assertIs(name in keeper, False)


class MayForget(Checks):

    def test_lots_that_may_go_and_lots_that_may_not(self):
        keeper = Keeper.read(HISTORY)
        self.assertEqual(keeper.arcs(), [("e1", "e2"), ("r", "e1"), ("r", "e2")])
        self.assertEqual(keeper.needs(), [("r", "x", ["e2"]), ("r", "y", ["e1"]), ("r", "z", ["e2"])])
        for lot, goes in [([], True), (["e1"], False), (["e2"], False), (["e3"], True), (["e1", "e2"], False),
                          (["e3", "e1"], False), (["e2", "e3"], False), (["e3", "e2", "e1"], False)]:
            self.assertIs(keeper.may_forget(lot), goes)
        self.assertEqual(told(keeper), told(Keeper.read(HISTORY)))

    def test_a_stronger_touch_stands_for_a_weaker_one_only(self):
        # r leads to e1, which read x, and to e2, which wrote x.
        keeper = Keeper.read("begin r\nread r y\nbegin e1\nread e1 x\nclose e1 y\nbegin e2\nclose e2 x y")
        self.assertEqual(keeper.needs(), [("r", "x", ["e2"]), ("r", "y", ["e1", "e2"])])
        self.assertIs(keeper.may_forget(["e1"]), True)
        self.assertIs(keeper.may_forget(["e2"]), False)
        keeper = Keeper.read("begin r\nread r y\nbegin e1\nread e1 x\nclose e1 y\nbegin e2\nread e2 x\nclose e2 y")
        self.assertEqual(keeper.needs(), [("r", "x", ["e1", "e2"]), ("r", "y", ["e1", "e2"])])
        self.assertEqual(list(keeper.lots()), [[], ["e1"], ["e2"]])

    def test_each_running_program_counts(self):
        # e2 wrote what e1 wrote, but only r leads to e1 as well as to e2.
        keeper = Keeper.read("begin r\nread r x\nbegin e1\nclose e1 x y\nbegin s\nread s x\nbegin e2\nclose e2 x")
        self.assertEqual(keeper.needs(), [("r", "x", ["e1", "e2"]), ("r", "y", ["e1"]), ("s", "x", ["e2"])])
        self.assertEqual(list(keeper.lots()), [[]])
        keeper(("quit", "s"))
        self.assertEqual(list(keeper.lots()), [[], ["e2"]])

    def test_a_running_program_that_has_touched_the_thing_does_not_stand_for_it(self):
        keeper = Keeper.read("begin r\nread r x\nread r y\nbegin e1\nread e1 x\nclose e1 y")
        self.assertEqual(keeper.needs(), [("r", "x", ["e1"]), ("r", "y", ["e1"])])
        self.check_needed(keeper, ["e1"])

    def test_without_running_programs_each_lot_may_go(self):
        keeper = Keeper.read("begin a\nread a x\nbegin b\nclose b x\nclose a y")
        self.assertEqual(list(keeper.lots()), [[], ["b"], ["a"], ["b", "a"]])
        self.check_free(keeper, ["a", "b"])
        self.assertEqual(told(keeper), told(Keeper()))

    def test_a_lot_in_any_order(self):
        keeper = Keeper.read(HISTORY + "\nclose r")
        for lot in itertools.permutations(["e1", "e2", "e3", "r"]):
            self.assertIs(keeper.may_forget(list(lot)), True)
            copied = keeper.without([])
            self.check_free(copied, list(lot))
            self.assertEqual(list(copied), [])
        keeper = Keeper.read(HISTORY)
        for lot in itertools.permutations(["e1", "e2", "e3"]):
            self.assertIs(keeper.may_forget(list(lot)), False)

    def test_what_is_no_lot(self):
        keeper = Keeper.read(HISTORY + "\nbegin q\nquit q\nbegin e4\nclose e4")
        keeper.forget(["e4"])
        before = told(keeper)
        for lot in [["r"], ["e3", "r"], ["q"], ["e4"], ["stranger"], ["x"], [""], ["No Name"], ["e3", "e3"], ["e"],
                    ["e3", "e1", "e3"], ["e3", "stranger"], ["e1", "e2", "e3", "e1"], ["e3\n"]]:
            for call in [keeper.may_forget, keeper.forget, keeper.without]:
                passed = list(lot)
                error = self.error_of(InvalidLot, call, passed)
                self.assertEqual([error.lot, passed], [lot, lot])
                self.assertIsNot(error.lot, passed)
                self.assertEqual(told(keeper), before)
        self.assertEqual(self.error_of(InvalidLot, Keeper().forget, ["a"]).lot, ["a"])


class Forget(Checks):

    def test_the_empty_lot(self):
        for text in ["", HISTORY]:
            keeper = Keeper.read(text)
            self.check_free(keeper, [])
            self.assertEqual(told(keeper), told(Keeper.read(text)))

    def test_a_lot_that_may_go(self):
        keeper = Keeper.read(HISTORY)
        self.check_free(keeper, ["e3"])
        self.assertEqual([list(keeper), keeper.running], [["e1", "e2"], ["r"]])
        self.assertEqual(self.error_of(InvalidLot, keeper.forget, ["e3"]).lot, ["e3"])

    def test_needed(self):
        keeper = Keeper.read(HISTORY)
        for lot in [["e1"], ["e2"], ["e2", "e1"], ["e3", "e2"], ["e3", "e1", "e2"]]:
            self.assertEqual(len(self.check_needed(keeper, lot)), 1)

    def test_needed_for_a_read_touch(self):
        keeper = Keeper.read("begin r\nread r y\nbegin e\nread e x\nclose e y\nbegin w\nclose w y")
        self.assertEqual(keeper.needs(), [("r", "x", ["e"]), ("r", "y", ["e", "w"])])
        self.assertEqual(self.check_needed(keeper, ["e"]), [("close", "r", ("x",))])

    def test_a_program_that_shows_what_another_one_hides(self):
        keeper = Keeper.read(
            "begin a\nread a x\nbegin b\nread b z\nbegin e\nclose e x y\nread b y\nbegin f\nclose f z x y"
        )
        self.assertEqual(keeper.needs(), [
            ("a", "x", ["e", "f"]), ("a", "y", ["e", "f"]), ("a", "z", ["f"]), ("b", "x", ["f"]), ("b", "y", ["f"]),
            ("b", "z", ["f"]),
        ])
        self.assertIs(keeper.may_forget(["e"]), True)
        self.assertEqual(len(self.check_needed(keeper, ["f"])), 1)

    def test_a_test_that_needs_quits(self):
        for many in [1, 2, 3]:
            # a leads to each b, and each b leads to f, which wrote x and q. Without h only those b keep a from both.
            lines = ["begin a", "read a k", "read a t"]
            for number in range(many):
                lines += [f"begin w{number}", f"close w{number} t y{number}", f"begin b{number}",
                          f"read b{number} y{number}", f"read b{number} z{number}"]
            read = " ".join(f"z{number}" for number in range(many))
            lines += ["begin f", f"close f {read} x q", "begin e", "read e q", "close e k", "begin h", "close h q x"]
            keeper = Keeper.read("\n".join(lines))
            names = [f"b{number}" for number in range(many)]
            self.assertEqual(keeper.memory().leads, [("a", name) for name in names])
            future = self.check_needed(keeper, ["h"])
            self.assertEqual(sorted(future[:-1]), [("quit", name) for name in names])
            self.assertEqual(future[-1][1], "a")

    def test_the_future_with_a_full_keeper(self):
        keeper = Keeper(limit=1)
        keeper |= parse_history("begin r\nread r x\nbegin e\nclose e x")
        self.check_needed(keeper, ["e"])


class ArcsAroundALot(Checks):

    CHAIN = "begin a\nread a t\nbegin b\nread b u\nclose b t\nbegin c\nread c v\nclose c u\nbegin d\nclose d v w"

    def test_around_one_and_around_two(self):
        keeper = Keeper.read(self.CHAIN)
        self.assertEqual(keeper.arcs(), [("a", "b"), ("b", "c"), ("c", "d")])
        for lot, arcs in [
            ([], [("a", "b"), ("b", "c"), ("c", "d")]), (["b"], [("a", "c"), ("c", "d")]),
            (["c"], [("a", "b"), ("b", "d")]), (["d"], [("a", "b"), ("b", "c")]), (["b", "c"], [("a", "d")]),
            (["c", "b"], [("a", "d")]), (["b", "d"], [("a", "c")]), (["c", "d"], [("a", "b")]), (["d", "b", "c"], []),
        ]:
            self.assertEqual(keeper.without(lot).arcs(), arcs)
            for order in itertools.permutations(lot):
                rest = keeper
                for name in order:
                    rest = rest.without([name])
                self.assertEqual(told(rest), told(keeper.without(lot)))

    def test_an_arc_that_is_there_already_is_there_once(self):
        keeper = Keeper.read("begin a\nread a x\nread a y\nbegin b\nread b z\nclose b x\nbegin c\nclose c y z")
        self.assertEqual(keeper.arcs(), [("a", "b"), ("a", "c"), ("b", "c")])
        self.assertEqual(keeper.without(["b"]).arcs(), [("a", "c")])

    def test_a_path_over_a_program_outside_of_the_lot_draws_none(self):
        keeper = Keeper.read(self.CHAIN)
        self.assertNotIn(("a", "d"), keeper.without(["b"]).arcs())
        self.assertNotIn(("a", "d"), keeper.without(["c"]).arcs())

    def test_between_running_programs(self):
        keeper = Keeper.read("begin r\nread r x\nbegin e\nclose e x y\nbegin s\nread s y\nread s z\nbegin f\nclose f x y")
        self.assertEqual(keeper.arcs(), [("e", "f"), ("e", "s"), ("r", "e"), ("r", "f"), ("s", "f")])
        rest = keeper.without(["e"])
        self.assertEqual(rest.arcs(), [("r", "f"), ("r", "s"), ("s", "f")])
        self.assertEqual(rest.memory().leads, [("r", "s")])
        # The drawn arc counts for a ring.
        step = ("close", "r", ("z",))
        for one in [keeper, rest]:
            self.assertEqual(self.error_of(Refused, one, step).ring, ["r", "e", "s"] if one is keeper else ["r", "s"])

    def test_forgetting_draws_the_same_arcs(self):
        keeper = Keeper.read("begin r\nread r x\nbegin e\nclose e x y\nbegin s\nread s y\nbegin f\nclose f x y")
        self.assertEqual(keeper.arcs(), [("e", "f"), ("e", "s"), ("r", "e"), ("r", "f"), ("s", "f")])
        self.check_free(keeper, ["e"])
        self.assertEqual(keeper.arcs(), [("r", "f"), ("r", "s"), ("s", "f")])

    def test_the_touches_are_gone(self):
        keeper = Keeper.read("begin e\nread e y\nclose e x\nbegin f\nclose f x")
        keeper.forget(["e"])
        keeper(("begin", "a"))
        self.assertEqual(keeper(("read", "a", "x")), ["f"])
        self.assertEqual(keeper(("close", "a", ("y",))), [])


class Without(Checks):

    def test_a_lot_that_may_not_go(self):
        keeper = Keeper.read(HISTORY)
        rest = keeper.without(["e2", "e1"])
        self.assertIs(type(rest), Keeper)
        self.assertEqual([rest.running, list(rest), rest.arcs(), rest.needs()], [["r"], ["e3"], [], []])
        self.assertEqual(rest(("read", "r", "x")), [])
        self.assertEqual(told(keeper), told(Keeper.read(HISTORY)))

    def test_the_limit_is_the_same(self):
        for limit in [0, 3, 12]:
            self.assertEqual(Keeper(limit=limit).without([]).limit, limit)
        keeper = Keeper.read(HISTORY)
        keeper.limit = 5
        rest = keeper.without(["e3"])
        self.assertEqual(rest.limit, 5)
        rest.limit = 4
        self.assertEqual(keeper.limit, 5)

    def test_the_two_share_nothing(self):
        for lot in [[], ["e3"], ["e1", "e2"]]:
            keeper = Keeper.read(HISTORY)
            rest = keeper.without(lot)
            kept, kept_rest = told(keeper), told(rest)
            keeper |= parse_history("begin n\nread n x\nread r v1\nclose n v1\nquit r\nbegin n2\nread n2 z")
            keeper.forget(["e3"])
            keeper.limit = 7
            self.assertEqual(told(rest), kept_rest)
            again = Keeper.read(HISTORY)
            rest = again.without(lot)
            rest |= parse_history("begin n\nread n x\nread r v1\nclose n v1\nquit r\nbegin n2\nread n2 z")
            rest.forget(list(rest))
            rest.limit = 0
            self.assertEqual(told(again), kept)

    def test_a_copy_goes_on_like_the_keeper(self):
        steps = parse_history("begin n\nread n x\nread r w1\nclose n w1\nclose r")
        keeper = Keeper.read(HISTORY)
        copied = keeper.without([])
        keeper |= steps
        copied |= steps
        self.assertEqual(told(copied), told(keeper))

    def test_begins_and_ends_keep_their_one_common_order(self):
        keeper = Keeper.read(
            "begin a\nbegin b\nclose b x\nbegin c\nbegin d\nclose d y\nclose a z\nbegin e\nbegin f\nclose f"
        )
        line = ["b", "c", "d", "a", "e", "f"]
        self.assertEqual(keeper.timeline(), line)
        for lot in all_lots(["b", "d", "a", "f"]):
            rest = keeper.without(lot)
            self.assertEqual(rest.timeline(), [name for name in line if name not in lot])
            self.assertEqual(list(rest), [name for name in ["b", "d", "a", "f"] if name not in lot])
            rest |= parse_history("begin g\nclose c\nclose g")
            self.assertEqual(rest.timeline(), [name for name in line if name not in lot + ["c"]] + ["c", "g"])


class Lots(Checks):

    def test_a_generator_of_new_lists(self):
        keeper = Keeper.read(HISTORY)
        found = keeper.lots()
        self.assertIsInstance(found, types.GeneratorType)
        self.assertEqual(list(found), [[], ["e3"]])
        lots = list(keeper.lots())
        for lot in lots:
            self.assertIs(type(lot), list)
            lot.append("more")
        self.assertEqual(list(keeper.lots()), [[], ["e3"]])
        self.assertEqual(list(Keeper().lots()), [[]])

    def test_their_order(self):
        keeper = Keeper.read("begin d\nbegin b\nbegin c\nbegin a\nclose c\nclose a\nclose d\nclose b")
        self.assertEqual(list(keeper.lots()), [
            [], ["c"], ["a"], ["d"], ["b"],
            ["c", "a"], ["c", "d"], ["c", "b"], ["a", "d"], ["a", "b"], ["d", "b"],
            ["c", "a", "d"], ["c", "a", "b"], ["c", "d", "b"], ["a", "d", "b"], ["c", "a", "d", "b"],
        ])

    def test_their_order_with_needs(self):
        keeper = Keeper.read(
            "begin r\nread r x\nbegin d\nclose d x\nbegin c\nclose c x\nbegin b\nclose b x\nbegin a\nclose a"
        )
        self.assertEqual(list(keeper.lots()), [
            [], ["d"], ["c"], ["b"], ["a"], ["d", "c"], ["d", "b"], ["d", "a"], ["c", "b"], ["c", "a"], ["b", "a"],
            ["d", "c", "a"], ["d", "b", "a"], ["c", "b", "a"],
        ])

    def test_the_first_ones_alone_can_be_asked(self):
        keeper = Keeper.of([step for number in range(12) for step in [("begin", f"e{number}"),
                                                                     ("close", f"e{number}", ())]])
        found = keeper.lots()
        self.assertEqual([next(found), next(found), next(found)], [[], ["e0"], ["e1"]])
        self.assertEqual(len(list(keeper.lots())), 4096)


class Needs(Checks):

    def test_in_their_orders(self):
        keeper = Keeper.read(
            "begin s\nread s x\nread s y\nbegin r\nread r x\nbegin e2\nread e2 a\nread e2 z\nclose e2 x\n"
            "begin e1\nread e1 z\nclose e1 x\nbegin e0\nclose e0 y a"
        )
        self.assertEqual(keeper.needs(), [
            ("r", "a", ["e0"]), ("r", "x", ["e2", "e1"]), ("r", "y", ["e0"]), ("r", "z", ["e2", "e1"]),
            ("s", "a", ["e0"]), ("s", "x", ["e2", "e1"]), ("s", "y", ["e0"]), ("s", "z", ["e2", "e1"]),
        ])
        for need in keeper.needs():
            self.assertIsInstance(need, tuple)
            self.assertIsInstance(need[2], list)

    def test_own_marks_are_no_needs(self):
        self.assertEqual(Keeper.read("begin r\nread r x\nread r y").needs(), [])

    def test_the_candidates_have_the_touch_of_the_mark(self):
        keeper = Keeper.read("begin r\nread r y\nbegin e1\nread e1 x\nclose e1 y\nbegin e2\nclose e2 x y\n"
                             "begin e3\nread e3 x\nclose e3 y")
        self.assertEqual(keeper.needs(), [("r", "x", ["e2"]), ("r", "y", ["e1", "e2", "e3"])])

    def test_new_lists(self):
        keeper = Keeper.read("begin r\nread r x\nbegin s\nread s x\nbegin e\nclose e x y")
        lists = lists_in(keeper.needs())
        self.assertEqual(len(lists), 5)
        self.assertEqual(len({id(one) for one in lists}), 5)
        for one in lists:
            one.append("more")
        self.assertEqual(keeper.needs(), [("r", "x", ["e"]), ("r", "y", ["e"]), ("s", "x", ["e"]), ("s", "y", ["e"])])


class Fewest(Checks):

    def test_without_needs(self):
        self.assertEqual(Keeper().fewest(), [])
        self.assertEqual(Keeper.read("begin a\nread a x\nbegin b\nclose b y").fewest(), [])

    def test_in_order_of_ending(self):
        keeper = Keeper.read("begin r\nread r x\nread r y\nbegin z\nclose z x\nbegin m\nclose m\nbegin a\nclose a y")
        self.assertEqual(keeper.needs(), [("r", "x", ["z"]), ("r", "y", ["a"])])
        self.assertEqual(keeper.fewest(), ["z", "a"])

    def test_one_candidate_of_many_needs(self):
        keeper = Keeper.read(
            "begin r\nread r x\nread r y\nread r z\nbegin a\nclose a x\nbegin b\nclose b y\nbegin c\nclose c z\n"
            "begin d\nclose d x y z"
        )
        self.assertEqual(keeper.fewest(), ["d"])
        # d writes no more than a, b and c did; without it all three are needed.
        self.assertEqual(keeper.without(["d"]).fewest(), ["a", "b", "c"])

    def test_a_choice_that_is_not_greedy(self):
        # m is a candidate of the most needs, and in no smallest list: u and v have all six things between them.
        keeper = Keeper.read(
            "begin r\n" + "\n".join(f"read r x{number}" for number in range(6)) + "\nbegin m\nclose m x0 x1 x3 x4\n"
            "begin u\nclose u x0 x1 x2\nbegin v\nclose v x3 x4 x5"
        )
        self.assertEqual(keeper.fewest(), ["u", "v"])

    def test_a_new_list(self):
        keeper = Keeper.read("begin r\nread r x\nbegin a\nclose a x")
        keeper.fewest().append("more")
        self.assertEqual(keeper.fewest(), ["a"])


if __name__ == "__main__":
    unittest.main()
