"""What the document promises of the whole program: nothing is shared, and everything is answered soon."""

import itertools
import random
import time
import unittest

from letforget.errors import Full, InvalidLot, KeeperError, Needed, Refused
from letforget.habits import Aged, Careful, Habit, Overwritten, Recent, Tidy, Unled, first_fault
from letforget.keeper import Keeper
from letforget.memory import Memory
from letforget.steps import parse_history
from letforget.twins import parting, shortest_parting, trimmed, verdicts
from tests.model import lists_in, parts, told

HISTORY = (
    "begin r\nread r y\nread r z\nbegin e1\nread e1 x\nclose e1 y\nbegin e2\nclose e2 x z\n"
    "begin e3\nread e3 u\nclose e3 v\nbegin s\nread s v\nread s w"
)
STEPS = parse_history(HISTORY)


def spoil(value):
    """Change each list in a value."""
    for one in lists_in(value):
        one.clear()
        one.append("spoiled")


class NothingShared(unittest.TestCase):

    def setUp(self):
        self.keeper = Keeper.read(HISTORY)
        self.before = told(self.keeper)

    def check_returned(self, ask):
        """Change each list of an answer, and ask again."""
        answer, wanted = ask(), repr(ask())
        found = lists_in(answer)
        self.assertEqual(len({id(one) for one in found}), len(found))
        spoil(answer)
        self.assertEqual(repr(ask()), wanted)
        self.assertEqual(told(self.keeper), self.before)

    def test_what_a_keeper_returns(self):
        keeper = self.keeper
        for ask in [
            lambda: keeper.running, keeper.arcs, keeper.order, keeper.timeline, keeper.needs, keeper.fewest,
            lambda: list(keeper), lambda: list(keeper.lots()), lambda: keeper.without([])(("read", "s", "z")),
            lambda: [(thing, mark.word) for thing, mark in keeper["e1"]], lambda: keeper.memory().running,
            lambda: keeper.memory().leads, lambda: keeper.memory().marks, lambda: keeper.memory().lines(),
            lambda: keeper.without(["e1"]).arcs(), lambda: keeper.without(["e1"]).running,
        ]:
            self.check_returned(ask)
        for name in ["r", "e1"]:
            keeper[name].clear()
        self.assertEqual(told(keeper), self.before)

    def test_the_clashes(self):
        self.keeper(("read", "s", "z")).append("spoiled")
        kept = told(self.keeper)
        self.keeper(("read", "s", "z")).clear()
        self.assertEqual(self.keeper(("read", "s", "z")), ["e2"])
        self.assertEqual(told(self.keeper), kept)

    def test_what_the_other_functions_return(self):
        one, other = self.keeper.memory(), self.keeper.without(["e1", "e2"]).memory()
        for ask in [
            lambda: verdicts(self.keeper, STEPS[-2:]), lambda: parting(one, other), lambda: shortest_parting(one, other),
            lambda: trimmed(STEPS), lambda: first_fault(STEPS, Recent(0)),
        ]:
            self.check_returned(ask)
        for habit in [Habit(), Unled(), Overwritten(), Tidy(), Aged(), Recent(0), Recent(1), Recent(5), Careful(Tidy())]:
            self.check_returned(lambda: habit.chosen(self.keeper))
            self.check_returned(lambda: habit(self.keeper))
        found = first_fault(STEPS, Recent(0))
        self.assertEqual(len({id(part) for part in lists_in(found)}), 2)

    def test_the_lists_of_errors(self):
        def refused():
            return self.keeper(("read", "r", "x"))

        def needed():
            return self.keeper.forget(["e2", "e1"])

        def no_lot():
            return self.keeper.forget(["e1", "r"])

        for call, kind in [(refused, Refused), (needed, Needed), (no_lot, InvalidLot)]:
            found = []
            for _ in range(2):
                with self.assertRaises(kind) as caught:
                    call()
                error = caught.exception
                fields = [vars(part) for part in [error, error.__cause__] if part is not None]
                found.append([lists_in(worth) for one in fields for worth in one.values()])
                for one in [error, error.__cause__]:
                    self.assertFalse(one is not None and [part for part in one.args if isinstance(part, list)])
            lists = [one for some in found for more in some for one in more]
            self.assertEqual(len({id(one) for one in lists}), len(lists))
            self.assertEqual(found[0], found[1])
            for one in lists:
                one.clear()
            self.assertEqual(told(self.keeper), self.before)
            with self.assertRaises(kind) as caught:
                call()
            self.assertTrue(lists_in(list(vars(caught.exception).values()))[1])

    def test_lists_that_are_passed_stay_as_they_were(self):
        steps, lot = list(STEPS), ["e3", "e1"]
        keeper = Keeper()
        keeper |= steps
        Keeper.of(steps)
        verdicts(Keeper(), steps)
        trimmed(steps)
        first_fault(steps, Aged())
        self.assertEqual(steps, STEPS)
        keeper.may_forget(lot)
        keeper.without(lot)
        with self.assertRaises(Needed):
            keeper.forget(lot)
        self.assertEqual(lot, ["e3", "e1"])

    def test_lists_that_were_passed_are_not_kept(self):
        steps, lot = list(STEPS), ["e3"]
        keeper = Keeper()
        keeper |= steps
        other = Keeper.of(steps)
        copied = keeper.without(lot)
        kept = told(copied)
        left = trimmed(steps)
        kept_left = list(left)
        keeper.without([]).forget(lot)
        with self.assertRaises(Needed) as caught:
            passed = ["e2", "e3"]
            keeper.forget(passed)
        passed.clear()
        steps.clear()
        lot.clear()
        self.assertEqual(told(keeper), self.before)
        self.assertEqual(told(other), self.before)
        self.assertEqual(told(copied), kept)
        self.assertEqual(left, kept_left)
        self.assertEqual(caught.exception.lot, ["e2", "e3"])

    def test_memories_never_change(self):
        memory = self.keeper.memory()
        wanted = parts(memory)
        other = self.keeper.without(["e1"]).memory()
        parting(memory, other)
        shortest_parting(memory, other)
        self.keeper.forget(["e3"])
        self.keeper(("quit", "r"))
        self.assertEqual(parts(memory), wanted)


def full_keeper(seed, limit=12):
    """Give a keeper with eight running and twelve ended programs and twelve things."""
    chance = random.Random(seed)
    keeper, things = Keeper(limit=limit), [f"x{number}" for number in range(12)]
    running = [f"r{number}" for number in range(8)]
    keeper |= [("begin", name) for name in running[:7]]
    for name in running[:7]:
        keeper |= [("read", name, thing) for thing in chance.sample(things, 4)]
    number = 0
    while len(list(keeper)) < 12:
        name = f"e{number}"
        number += 1
        keeper(("begin", name))
        closed = ("close", name, tuple(chance.sample(things, chance.randint(1, 6))))
        if verdicts(keeper, [("read", name, chance.choice(things)), closed]) != [True, True]:
            keeper(("quit", name))
            continue
        keeper |= [closed]
    keeper(("begin", running[7]))
    return keeper


class Soon(unittest.TestCase):
    """All that callers may pass is answered without a long wait; the times are far above what it takes."""

    def soon(self, call, seconds=5):
        begun = time.perf_counter()
        found = call()
        self.assertLess(time.perf_counter() - begun, seconds)
        return found

    def test_full_keepers(self):
        for seed in range(2):
            keeper = full_keeper(seed)
            self.assertEqual([len(keeper.running), len(list(keeper))], [8, 12])
            for ask in [keeper.needs, keeper.memory, keeper.order, keeper.arcs, keeper.fewest]:
                self.soon(ask)
            lots = self.soon(lambda: list(keeper.lots()))
            self.assertEqual(len(keeper.fewest()), 12 - max(map(len, lots)))
            every = [list(lot) for size in range(13) for lot in itertools.combinations(list(keeper), size)]
            self.assertEqual(self.soon(lambda: [lot for lot in every if keeper.may_forget(lot)], 20), lots)
            with self.assertRaises(Needed) as caught:
                self.soon(lambda: keeper.forget(list(keeper)))
            self.assertEqual(verdicts(keeper, caught.exception.future).count(False), 1)
            for habit in [Unled(), Overwritten(), Tidy(), Aged(), Recent(3), Careful(Recent(0))]:
                self.soon(lambda: habit.chosen(keeper))
            for value in range(12):
                with keeper.trial() as tried:
                    try:
                        self.soon(lambda: tried.set_limit(value))
                    except Full as error:
                        self.assertEqual(error.needed, len(keeper.fewest()))

    def test_a_need_for_each_running_program_and_thing(self):
        """Each of the twelve things is written by many of the ended programs, to whom all eight others lead."""
        things = [f"x{number}" for number in range(12)]
        for many in range(1, 7):
            chance = random.Random(many)
            keeper = Keeper()
            keeper |= [("begin", f"r{number}") for number in range(7)]
            keeper |= [("read", f"r{number}", thing) for number in range(7) for thing in things]
            for number in range(12):
                closed = tuple(chance.sample(things, many))
                keeper |= [("begin", f"e{number}"), ("close", f"e{number}", closed)]
            self.assertGreaterEqual(len(keeper.needs()), 7 * 8 if many > 1 else 1)
            found = self.soon(keeper.fewest)
            lots = self.soon(lambda: list(keeper.lots()))
            self.assertEqual(len(found), 12 - len(lots[-1]))

    def test_eighty_steps(self):
        things = [f"x{number}" for number in range(12)]
        steps = [("begin", "r")] + [("read", "r", thing) for thing in things[:7]]
        for number in range(36):
            steps += [("begin", f"e{number}"), ("close", f"e{number}", (things[number // 3],))]
        self.assertEqual(len(steps), 80)
        left = self.soon(lambda: trimmed(steps))
        self.assertEqual([step[1] for step in left if step[0] == "close"], [f"e{number}" for number in range(2, 21, 3)])
        self.assertEqual(self.soon(lambda: verdicts(Keeper(), steps)), [True] * 80)
        self.assertEqual(len(list(self.soon(lambda: Keeper.of(steps)))), 12)
        few = [step for step in steps if step[1] == "r" or int(step[1][1:]) < 11]
        for habit in [Habit(), Unled(), Overwritten(), Tidy(), Aged(), Recent(12), Careful(Recent(0))]:
            self.assertIs(self.soon(lambda: first_fault(few, habit)), None)

    def test_memories_of_eight_programs_that_no_test_parts(self):
        running = [f"r{number}" for number in range(8)]
        things = [f"x{number}" for number in range(12)]
        leads = list(itertools.permutations(running, 2))
        for marks in [
            [(name, thing, "write") for name in running for thing in things],
            [(name, thing, "read") for name in running for thing in things],
            [(name, thing, "own") for name in running for thing in things[:1]],
        ]:
            for one, other in [
                (Memory(running, leads, marks), Memory(running, leads, marks + [("r0", "x12", "own")])),
                (Memory(running, leads, marks), Memory(running, leads, marks)),
                (Memory(running, leads[1:], marks), Memory(running, leads, marks)),
                (Memory(running, [], marks), Memory(running, leads, marks)),
            ]:
                self.soon(lambda: shortest_parting(one, other))
                self.soon(lambda: parting(one, other))

    def test_somewhat_more_than_the_bounds(self):
        keeper = Keeper()
        keeper |= [("begin", f"r{number}") for number in range(10)]
        keeper |= [("read", f"r{number}", f"x{thing}") for number in range(10) for thing in range(14)]
        keeper |= [("begin", "e"), ("close", "e", tuple(f"x{thing}" for thing in range(14)))]
        self.assertEqual(len(keeper.needs()), 140)
        with self.assertRaises(KeeperError):
            self.soon(lambda: keeper.forget(["e"]))
        self.assertEqual(self.soon(keeper.fewest), ["e"])
        self.assertIs(self.soon(lambda: shortest_parting(keeper.memory(), keeper.memory())), None)


if __name__ == "__main__":
    unittest.main()
