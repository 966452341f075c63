import random
import unittest

from letforget.errors import Full, InvalidLimit, InvalidStep, KeeperError, NotRunning, Refused, Taken
from letforget.keeper import Keeper
from letforget.steps import parse_history, parse_step
from tests.model import SlowKeeper, all_lots, random_step, told
from tests.test_keeper_models import NAMES, THINGS

WRONG_LIMITS = [-1, -12, -100, 13, 14, 1000]


def filled(limit, text):
    """Give a keeper with a limit that has taken the steps."""
    keeper = Keeper(limit=limit)
    keeper |= parse_history(text)
    return keeper


class Checks(unittest.TestCase):

    def error_of(self, kind, call, *arguments, **named):
        with self.assertRaises(KeeperError) as caught:
            call(*arguments, **named)
        self.assertIs(type(caught.exception), kind)
        return caught.exception

    def full(self, keeper, line, needed):
        before = told(keeper)
        self.assertEqual(self.error_of(Full, keeper, parse_step(line)).needed, needed)
        self.assertEqual(told(keeper), before)

    def cannot_change(self, keeper, value, kind):
        """Check that a limit cannot be set, in each of the two ways, and that nothing changes."""
        before = told(keeper)
        errors = [self.error_of(kind, keeper.set_limit, value), self.error_of(kind, setattr, keeper, "limit", value)]
        self.assertEqual(told(keeper), before)
        return errors

    def changes(self, text, first, second, ended):
        """Check a change of the limit in each of the two ways."""
        for way in [lambda keeper: keeper.set_limit(second), lambda keeper: setattr(keeper, "limit", second)]:
            keeper = filled(first, text)
            memory = keeper.memory()
            self.assertIs(way(keeper), None)
            self.assertEqual([keeper.limit, list(keeper)], [second, ended])
            self.assertTrue(keeper.memory() == memory)


class Limits(Checks):

    def test_the_most(self):
        self.assertEqual([Keeper.MOST, Keeper().MOST], [12, 12])

    def test_limits_of_new_keepers(self):
        self.assertEqual(Keeper().limit, 12)
        for limit in range(13):
            self.assertEqual(Keeper(limit=limit).limit, limit)
        self.assertRaises(TypeError, Keeper, 3)

    def test_the_limit_of_a_keeper_of_steps(self):
        self.assertEqual([Keeper.of([]).limit, Keeper.read("begin a\nclose a").limit], [12, 12])

    def test_wrong_limits_of_new_keepers(self):
        for value in WRONG_LIMITS:
            self.assertEqual(self.error_of(InvalidLimit, Keeper, limit=value).value, value)

    def test_wrong_limits_of_keepers(self):
        for keeper in [Keeper(), filled(3, "begin r\nread r x\nbegin a\nclose a x\nbegin b\nclose b")]:
            for value in WRONG_LIMITS:
                for error in self.cannot_change(keeper, value, InvalidLimit):
                    self.assertEqual(error.value, value)


class Closing(Checks):

    def test_up_to_the_limit_nothing_is_forgotten(self):
        keeper = filled(2, "begin a\nclose a\nbegin b\nclose b")
        self.assertEqual(list(keeper), ["a", "b"])
        keeper = Keeper()
        keeper |= [step for at in range(12) for step in [("begin", f"e{at}"), ("close", f"e{at}", ())]]
        self.assertEqual(len(list(keeper)), 12)

    def test_the_first_one_that_may_go_is_forgotten(self):
        # a is needed, b and c are not.
        keeper = filled(2, "begin r\nread r x\nbegin a\nclose a x\nbegin c\nread c y\nbegin b\nclose b")
        self.assertEqual(list(keeper), ["a", "b"])
        self.assertEqual(keeper(("close", "c", ("z",))), [])
        self.assertEqual([list(keeper), keeper.running], [["a", "c"], ["r"]])
        keeper |= parse_history("begin d\nclose d")
        self.assertEqual(list(keeper), ["a", "d"])

    def test_only_one_is_forgotten(self):
        keeper = filled(3, "begin a\nclose a\nbegin b\nclose b\nbegin c\nclose c\nbegin d\nclose d")
        self.assertEqual(list(keeper), ["b", "c", "d"])

    def test_the_first_one_in_order_of_ending_not_of_names_or_begins(self):
        keeper = filled(2, "begin a\nbegin b\nbegin c\nclose c\nclose b\nclose a")
        self.assertEqual(list(keeper), ["b", "a"])

    def test_the_one_that_just_ended_is_forgotten(self):
        keeper = filled(1, "begin r\nread r x\nbegin a\nclose a x\nbegin b\nread b z")
        self.assertEqual(keeper(("close", "b", ("z",))), [])
        self.assertEqual([list(keeper), keeper.running, keeper.arcs()], [["a"], ["r"], [("r", "a")]])
        self.assertIs("b" in keeper, False)
        self.assertEqual(keeper(("begin", "b")), [])

    def test_the_clashes_are_told_also_of_a_program_that_is_forgotten(self):
        # a is led to by r until b has written the same.
        keeper = filled(1, "begin r\nread r x\nbegin a\nclose a x\nbegin b")
        self.assertEqual(keeper(("close", "b", ("x",))), ["a", "r"])
        self.assertEqual([list(keeper), keeper.arcs()], [["b"], [("r", "b")]])

    def test_it_is_judged_after_the_close(self):
        # Before the close of r its need holds a; behind it nobody needs anything.
        keeper = filled(1, "begin r\nread r x\nbegin a\nclose a x")
        self.assertEqual(keeper.needs(), [("r", "x", ["a"])])
        self.assertEqual(keeper(("close", "r", ())), [])
        self.assertEqual([list(keeper), keeper.running], [["r"], []])

    def test_an_arc_is_drawn_around_the_one_that_is_forgotten(self):
        keeper = filled(1, "begin r\nread r x\nbegin a\nclose a x y\nbegin s\nread s y\nbegin b\nclose b x y")
        self.assertEqual([list(keeper), keeper.arcs()], [["b"], [("r", "b"), ("r", "s"), ("s", "b")]])

    def test_full(self):
        keeper = filled(1, "begin r\nread r x\nread r y\nbegin a\nclose a x\nbegin b")
        self.full(keeper, "close b y", 2)
        self.full(keeper, "close b z y", 2)
        self.assertIn("b", keeper.running)
        self.assertEqual(keeper(("close", "b", ("x", "y"))), ["a", "r"])
        self.assertEqual(list(keeper), ["b"])

    def test_full_with_each_limit(self):
        for limit in range(13):
            keeper = Keeper(limit=limit)
            keeper(("begin", "r"))
            for at in range(limit + 1):
                keeper(("read", "r", f"x{at}"))
            for at in range(limit):
                keeper |= [("begin", f"e{at}"), ("close", f"e{at}", (f"x{at}",))]
            keeper(("begin", "last"))
            self.full(keeper, f"close last x{limit}", limit + 1)
            self.assertEqual(keeper(("close", "last", ())), [])
            self.assertEqual(list(keeper), [f"e{at}" for at in range(limit)])

    def test_a_limit_of_0(self):
        keeper = filled(0, "begin a\nclose a x\nbegin r\nread r x")
        self.assertEqual(list(keeper), [])
        keeper(("begin", "b"))
        self.full(keeper, "close b x", 1)
        self.assertEqual(keeper(("close", "b", ("y",))), [])
        self.assertEqual(keeper(("close", "r", ("x",))), [])
        self.assertEqual([list(keeper), keeper.running], [[], []])

    def test_the_other_errors_come_first(self):
        keeper = filled(1, "begin r\nread r x\nread r y\nbegin a\nread a v\nclose a x z\nbegin b\nread b y\nread b v")
        self.error_of(InvalidStep, keeper, ("close", "b", ("y", "y")))
        self.error_of(NotRunning, keeper, ("close", "a", ("y",)))
        self.error_of(Taken, keeper, ("begin", "a"))
        self.full(keeper, "close b y", 2)
        self.assertEqual(self.error_of(Refused, keeper, ("close", "r", ("x", "y"))).ring, ["r", "a"])
        # Without x the close of r is not refused, but b would lead over r to a, and need both.
        self.full(keeper, "close r y", 2)
        keeper(("quit", "b"))
        self.assertEqual(keeper(("close", "r", ("y",))), [])
        self.assertEqual(list(keeper), ["r"])

    def test_full_in_a_list_of_steps(self):
        keeper = same = filled(1, "begin r\nread r x\nread r y\nbegin a\nclose a x")
        before = told(keeper)
        with self.assertRaises(Full) as caught:
            keeper |= parse_history("begin c\nquit c\nbegin b\nclose b y\nquit z")
        self.assertEqual(caught.exception.needed, 2)
        self.assertIs(keeper, same)
        self.assertEqual(told(keeper), before)

    def test_full_in_the_steps_of_a_new_keeper(self):
        steps = [("begin", "r")] + [("read", "r", f"x{at}") for at in range(13)]
        for at in range(13):
            steps += [("begin", f"e{at}"), ("close", f"e{at}", (f"x{at}",))]
        self.assertEqual(self.error_of(Full, Keeper.of, steps).needed, 13)
        self.assertEqual(len(list(Keeper.of(steps[:-1]))), 12)

    def test_a_close_is_counted_only_where_one_ends_too_many(self):
        """Random histories beside a slow keeper that forgets by the words of point 24."""
        forgotten, fulls = 0, 0
        for seed in range(80):
            chance = random.Random(seed)
            limit = chance.randint(0, 6)
            keeper, slow = Keeper(limit=limit), SlowKeeper()
            things = THINGS[:chance.choice([2, 4, 7])]
            for _ in range(50):
                step = random_step(chance, slow, NAMES, things, most_ended=9)
                next_one = slow.copy()
                if not next_one.take(step):
                    self.assertRaises(Refused, keeper, step)
                    continue
                if len(next_one.ended) > limit:
                    free = [name for name in next_one.ended if next_one.may_go([name])]
                    if not free:
                        self.full(keeper, " ".join([step[0], step[1], *step[2]]), limit + 1)
                        fulls += 1
                        continue
                    next_one.forget(free[:1])
                    forgotten += 1
                self.assertEqual(keeper(step), sorted(slow.clashes(step)))
                slow = next_one
                self.assertEqual(list(keeper), slow.ended)
                self.assertEqual(keeper.arcs(), sorted(slow.arcs))
        self.assertGreater(forgotten, 100)
        self.assertGreater(fulls, 30)


class Changing(Checks):

    FOUR = "begin a\nclose a\nbegin b\nclose b\nbegin c\nclose c\nbegin d\nclose d"

    def test_raised_and_lowered_without_forgetting(self):
        for first, second in [(4, 4), (4, 5), (4, 12), (12, 4), (7, 5)]:
            self.changes(self.FOUR, first, second, ["a", "b", "c", "d"])
        self.changes("", 12, 0, [])
        self.changes("", 0, 12, [])

    def test_lowered(self):
        for value, ended in [(3, ["b", "c", "d"]), (2, ["c", "d"]), (1, ["d"]), (0, [])]:
            self.changes(self.FOUR, 12, value, ended)
            self.changes(self.FOUR, 4, value, ended)

    def test_a_raised_limit_counts_for_the_next_close(self):
        keeper = filled(1, "begin r\nread r x\nread r y\nbegin a\nclose a x\nbegin b")
        self.full(keeper, "close b y", 2)
        keeper.limit = 2
        self.assertEqual(keeper(("close", "b", ("y",))), ["r"])
        self.assertEqual(list(keeper), ["a", "b"])

    def test_the_first_lot_of_the_right_size_all_at_once(self):
        # One by one b would go first; then a, c and d would have to stay.
        text = (
            "begin r\nread r x\nread r y\nread r z\nbegin b\nclose b x y\nbegin a\nclose a x\nbegin c\nclose c y\n"
            "begin d\nclose d z"
        )
        keeper = Keeper.read(text)
        self.assertEqual(keeper.needs(), [("r", "x", ["b", "a"]), ("r", "y", ["b", "c"]), ("r", "z", ["d"])])
        self.changes(text, 12, 3, ["a", "c", "d"])
        self.changes(text, 12, 2, ["b", "d"])
        self.assertEqual([error.needed for error in self.cannot_change(keeper, 1, Full)], [2, 2])
        self.assertEqual([error.needed for error in self.cannot_change(keeper, 0, Full)], [2, 2])
        keeper.limit = 3
        self.assertEqual([error.needed for error in self.cannot_change(keeper, 2, Full)], [3, 3])

    def test_a_lot_is_no_larger_than_it_must_be(self):
        text = "begin r\nread r x\nbegin a\nclose a x\nbegin b\nclose b\nbegin c\nclose c\nbegin d\nclose d x"
        self.changes(text, 12, 3, ["b", "c", "d"])
        self.changes(text, 12, 2, ["c", "d"])
        self.changes(text, 12, 1, ["d"])

    def test_full_tells_how_many_can_stay_alone(self):
        # Four ended programs, each of three things written by one alone.
        keeper = Keeper.read(
            "begin r\nread r x\nread r y\nread r z\nbegin a\nclose a x\nbegin b\nclose b\nbegin c\nclose c y\n"
            "begin d\nclose d z"
        )
        for value in [2, 1, 0]:
            self.assertEqual([error.needed for error in self.cannot_change(keeper, value, Full)], [3, 3])
        self.assertEqual([keeper.limit, len(keeper.fewest())], [12, 3])
        keeper.set_limit(3)
        self.assertEqual(list(keeper), ["a", "c", "d"])

    def test_invalid_comes_before_full(self):
        keeper = Keeper.read("begin r\nread r x\nbegin a\nclose a x")
        self.cannot_change(keeper, 0, Full)
        self.cannot_change(keeper, -1, InvalidLimit)

    def test_random_keepers(self):
        lowered, fulls = 0, 0
        for seed in range(120):
            chance = random.Random(seed)
            keeper, slow = Keeper(), SlowKeeper()
            for _ in range(45):
                step = random_step(chance, slow, NAMES, THINGS[:5])
                if slow.take(step):
                    keeper(step)
            ended = list(keeper)
            staying = min(len(ended) - len(lot) for lot in all_lots(ended) if slow.may_go(lot))
            for value in range(len(ended)):
                lots = [lot for lot in all_lots(ended) if len(lot) == len(ended) - value and slow.may_go(lot)]
                if lots:
                    changed = keeper.without([])
                    changed.limit = value
                    rest = slow.copy()
                    rest.forget(lots[0])
                    self.assertEqual([list(changed), changed.arcs()], [rest.ended, sorted(rest.arcs)])
                    lowered += 1
                else:
                    self.assertEqual([error.needed for error in self.cannot_change(keeper, value, Full)], [staying] * 2)
                    fulls += 1
        self.assertGreater(lowered, 100)
        self.assertGreater(fulls, 50)


if __name__ == "__main__":
    unittest.main()
