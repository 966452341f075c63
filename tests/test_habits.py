import random
import unittest

from letforget import habits
from letforget.errors import InvalidStep, KeeperError, NotRunning, Refused, Taken
from letforget.habits import Aged, Careful, Habit, Overwritten, Recent, Tidy, Unled, first_fault
from letforget.keeper import Keeper
from letforget.memory import Memory
from letforget.steps import parse_history
from tests.model import SlowKeeper, all_lots, parts, random_step, told
from tests.test_forgetting import is_test
from tests.test_keeper_models import NAMES, THINGS
from tests.test_twins import all_futures_that_are_tests, parts_memories


def slow_unled(slow):
    return [name for name in slow.ended if not any(name in slow.led(program) for program in slow.running)]


def slow_overwritten(slow):
    return [name for at, name in enumerate(slow.ended)
            if all(any(slow.touched[later].get(thing) == "write" for later in slow.ended[at + 1:])
                   for thing in slow.touched[name])]


def slow_aged(slow):
    return [name for name in slow.ended
            if all(slow.ended_at[name] < slow.began_at[program] for program in slow.running)]


def slow_recent(number):
    return lambda slow: slow.ended[:-number] if number else list(slow.ended)


def slow_careful(inner):
    def chosen(slow):
        lot = []
        for name in inner(slow):
            if slow.may_go(lot + [name]):
                lot.append(name)
        return lot

    return chosen


def slow_tidy(slow):
    return [name for name in slow.ended if name in slow_unled(slow) + slow_overwritten(slow)]


# Each habit beside what the document says of it.
PLAIN = [
    (Habit, lambda slow: []), (Unled, slow_unled), (Overwritten, slow_overwritten), (Tidy, slow_tidy),
    (Aged, slow_aged), (lambda: Recent(0), slow_recent(0)), (lambda: Recent(1), slow_recent(1)),
    (lambda: Recent(3), slow_recent(3)), (lambda: Recent(100), slow_recent(100)),
]
ALL = PLAIN + [(lambda make=make: Careful(make()), slow_careful(words)) for make, words in PLAIN]
ALL += [(lambda make=make: Careful(Careful(make())), slow_careful(words)) for make, words in PLAIN]


def random_keepers(seeds, steps=45):
    for seed in range(seeds):
        chance = random.Random(seed)
        keeper, slow = Keeper(), SlowKeeper()
        things = THINGS[:chance.choice([2, 4, 7])]
        for at in range(steps):
            step = random_step(chance, slow, NAMES, things)
            if slow.take(step):
                keeper(step)
            if at % 9 == 8:
                yield keeper, slow


class Checks(unittest.TestCase):

    def chooses(self, keeper, habit, lot):
        before = told(keeper)
        for found in [habit.chosen(keeper), habit(keeper), habit.chosen(keeper)]:
            self.assertIsInstance(found, list)
            self.assertEqual(found, lot)
            found.append("more")
        self.assertEqual(told(keeper), before)


class Classes(unittest.TestCase):

    def test_their_bases(self):
        self.assertEqual(Habit.__bases__, (object,))
        for kind in [Unled, Overwritten, Aged, Recent, Careful]:
            self.assertEqual(kind.__bases__, (Habit,))
        self.assertEqual(Tidy.__bases__, (Unled, Overwritten))

    def test_each_has_its_own_chosen_and_inherits_the_call(self):
        self.assertIn("__call__", vars(Habit))
        for kind in [Habit, Unled, Overwritten, Tidy, Aged, Recent, Careful]:
            self.assertIn("chosen", vars(kind))
            self.assertEqual(kind.__module__, "letforget.habits")
            if kind is not Habit:
                self.assertNotIn("__call__", vars(kind))
        self.assertEqual(habits.first_fault.__module__, "letforget.habits")

    def test_a_call_asks_the_habit_itself(self):
        class Other(Habit):
            def chosen(self, keeper):
                return ["asked"]

        self.assertEqual(Other()(Keeper()), ["asked"])


class Choices(Checks):

    def test_without_ended_programs(self):
        for keeper in [Keeper(), Keeper.read("begin a\nread a x\nbegin b\nquit b")]:
            for make, _ in ALL:
                self.chooses(keeper, make(), [])

    def test_the_plain_habit(self):
        self.chooses(Keeper.read("begin a\nclose a\nbegin b\nclose b"), Habit(), [])

    def test_without_running_programs(self):
        keeper = Keeper.read("begin a\nread a z\nclose a x\nbegin c\nclose c x z\nbegin b\nclose b y")
        for habit, lot in [(Unled(), ["a", "c", "b"]), (Overwritten(), ["a"]), (Tidy(), ["a", "c", "b"]),
                           (Aged(), ["a", "c", "b"]), (Recent(0), ["a", "c", "b"]), (Recent(1), ["a", "c"]),
                           (Recent(2), ["a"]), (Recent(3), []), (Recent(4), []), (Recent(1000), [])]:
            self.chooses(keeper, habit, lot)
            self.chooses(keeper, Careful(habit), lot)

    def test_unled(self):
        keeper = Keeper.read(
            "begin z\nclose z v\nbegin r\nread r x\nread r v\nbegin c\nread c y\nclose c x\nbegin b\nclose b y\n"
            "begin a\nclose a w\nbegin s\nread s w"
        )
        self.assertEqual(keeper.arcs(), [("a", "s"), ("c", "b"), ("r", "c"), ("z", "r")])
        self.chooses(keeper, Unled(), ["z", "a"])

    def test_unled_counts_paths_over_ended_programs_alone(self):
        keeper = Keeper.read("begin r\nread r t\nbegin b\nclose b t u\nbegin s\nread s u\nread s v\nbegin d\nclose d v")
        self.assertEqual(keeper.arcs(), [("b", "s"), ("r", "b"), ("s", "d")])
        self.chooses(keeper, Unled(), [])
        keeper(("quit", "s"))
        self.chooses(keeper, Unled(), ["d"])

    def test_overwritten(self):
        keeper = Keeper.read(
            "begin r\nbegin d\nread d y\nclose d x\nbegin e\nclose e\nbegin c\nread c y\nclose c x\nbegin b\nclose b y\n"
            "begin a\nread a y\nclose a"
        )
        # d touched x and y, which c and b wrote later; nobody wrote x behind c, or y behind b; e touched nothing.
        self.chooses(keeper, Overwritten(), ["d", "e"])
        # What a later one has read is not written.
        keeper = Keeper.read("begin a\nclose a x\nbegin b\nread b x\nclose b")
        self.chooses(keeper, Overwritten(), [])

    def test_overwritten_asks_for_programs_that_are_held_and_ended_later(self):
        keeper = Keeper.read("begin a\nclose a x\nbegin b\nclose b x")
        self.chooses(keeper, Overwritten(), ["a"])
        self.chooses(keeper.without(["b"]), Overwritten(), [])
        keeper = Keeper.read("begin a\nbegin b\nclose b x\nclose a y")
        self.chooses(keeper, Overwritten(), [])
        # Its own write does not count.
        self.chooses(Keeper.read("begin a\nread a x\nclose a x"), Overwritten(), [])

    def test_tidy(self):
        keeper = Keeper.read(
            "begin z\nclose z v\nbegin r\nread r x\nbegin c\nclose c x\nbegin b\nclose b x\nbegin a\nclose a"
        )
        self.chooses(keeper, Unled(), ["z", "a"])
        self.chooses(keeper, Overwritten(), ["c", "a"])
        self.chooses(keeper, Tidy(), ["z", "c", "a"])

    def test_aged(self):
        keeper = Keeper.read("begin c\nbegin a\nclose c\nbegin b\nclose b\nclose a\nbegin r\nbegin d\nclose d\nbegin s")
        self.chooses(keeper, Aged(), ["c", "b", "a"])
        keeper(("quit", "r"))
        self.chooses(keeper, Aged(), ["c", "b", "a", "d"])
        self.chooses(Keeper.read("begin r\nbegin a\nclose a\nbegin b\nclose b"), Aged(), [])

    def test_aged_of_a_name_that_runs_a_second_time(self):
        keeper = Keeper.read("begin r\nbegin a\nclose a\nbegin b\nclose b")
        self.chooses(keeper, Aged(), [])
        keeper |= parse_history("quit r\nbegin r\nbegin c\nclose c")
        self.chooses(keeper, Aged(), ["a", "b"])
        # A name that ended, was forgotten, and runs again; and one that ended a second time.
        keeper = Keeper.read("begin a\nclose a\nbegin b\nclose b")
        keeper.forget(["a"])
        keeper |= parse_history("begin a\nbegin c\nclose c")
        self.chooses(keeper, Aged(), ["b"])
        keeper |= parse_history("begin d\nclose a\nbegin e")
        self.chooses(keeper, Aged(), ["b", "c"])

    def test_aged_where_a_lot_is_left_out(self):
        keeper = Keeper.read("begin a\nbegin b\nclose b\nclose a\nbegin r\nbegin d\nclose d\nbegin s")
        self.chooses(keeper.without(["b"]), Aged(), ["a"])
        self.chooses(keeper.without(["a", "d"]), Aged(), ["b"])
        self.chooses(keeper.without(["b"]).without(["a"]), Aged(), [])

    def test_recent(self):
        keeper = Keeper.read("begin r\nbegin a\nbegin c\nclose c\nclose a\nbegin b\nclose b")
        for number, lot in enumerate([["c", "a", "b"], ["c", "a"], ["c"], [], [], []]):
            self.chooses(keeper, Recent(number), lot)

    def test_careful(self):
        # Either of e and f may go, not both; m may not go; n may.
        keeper = Keeper.read(
            "begin r\nread r x\nread r y\nbegin e\nclose e x\nbegin m\nclose m y\nbegin n\nclose n\nbegin f\nclose f x"
        )
        self.assertEqual(keeper.needs(), [("r", "x", ["e", "f"]), ("r", "y", ["m"])])
        self.chooses(keeper, Recent(0), ["e", "m", "n", "f"])
        self.chooses(keeper, Careful(Recent(0)), ["e", "n"])
        self.chooses(keeper, Careful(Recent(1)), ["e", "n"])
        self.chooses(keeper, Careful(Habit()), [])
        self.chooses(keeper, Careful(Unled()), ["n"])
        self.chooses(keeper, Careful(Overwritten()), ["e", "n"])
        self.chooses(keeper, Careful(Tidy()), ["e", "n"])
        self.chooses(keeper, Careful(Aged()), [])
        self.chooses(keeper, Careful(Careful(Recent(0))), ["e", "n"])

    def test_random_keepers(self):
        for keeper, slow in random_keepers(30):
            for make, words in ALL:
                self.chooses(keeper, make(), words(slow))

    def test_random_keepers_without_a_lot(self):
        chance = random.Random(28)
        for keeper, slow in random_keepers(25):
            for lot in chance.sample(all_lots(slow.ended), min(6, 2 ** len(slow.ended))):
                rest = slow.copy()
                rest.forget(lot)
                for make, words in PLAIN:
                    self.chooses(keeper.without(lot), make(), words(rest))

    def test_which_choices_always_may_go(self):
        wrong = 0
        for keeper, _ in random_keepers(80):
            for make, _ in [pair for at, pair in enumerate(ALL) if at not in range(4, 9)]:
                self.assertIs(keeper.may_forget(make().chosen(keeper)), True)
            wrong += not keeper.may_forget(Aged().chosen(keeper))
            wrong += not keeper.may_forget(Recent(1).chosen(keeper))
        self.assertGreater(wrong, 20)

    def test_one_habit_for_many_keepers(self):
        for make, words in ALL:
            habit = make()
            for keeper, slow in random_keepers(6):
                self.chooses(keeper, habit, words(slow))


class FirstFault(unittest.TestCase):

    STEPS = parse_history("begin f\nread f x\nbegin e\nclose e x\nbegin a\nread a y\nclose f y")

    def check_fault(self, steps, habit, place, lot):
        passed = list(steps)
        found = first_fault(passed, habit)
        self.assertEqual(passed, steps)
        self.assertIsInstance(found, tuple)
        self.assertEqual(found[:2], (place, lot))
        return found[2]

    def test_the_example_of_the_document(self):
        self.assertEqual(first_fault(self.STEPS, Aged()), (6, ["e"], [("read", "a", "x")]))

    def test_without_a_fault(self):
        self.assertIs(first_fault([], Recent(0)), None)
        for habit in [Habit(), Unled(), Overwritten(), Tidy(), Careful(Aged()), Careful(Recent(0)), Recent(2)]:
            self.assertIs(first_fault(self.STEPS, habit), None)
        self.assertIs(first_fault(self.STEPS[:-1], Aged()), None)

    def test_recent(self):
        future = self.check_fault(self.STEPS, Recent(0), 3, ["e"])
        self.assertIn(future, [[("read", "f", "x")], [("close", "f", ("x",))]])
        future = self.check_fault(self.STEPS, Recent(1), 6, ["e"])
        self.assertIn(future, [[("read", "a", "x")], [("close", "a", ("x",))]])

    def test_a_future_that_is_longer(self):
        lines = ["begin a", "read a k", "read a t", "begin w", "close w t y", "begin b", "read b y", "read b z",
                 "begin f", "close f z x q", "begin e", "read e q", "close e k", "begin h", "close h q x"]
        steps = parse_history("\n".join(lines + ["begin c", "close c"]))

        class ForgetsH(Habit):
            def chosen(self, keeper):
                return [name for name in keeper if name == "h"]

        future = self.check_fault(steps, ForgetsH(), 14, ["h"])
        self.assertEqual([future[0], len(future), future[-1][1]], [("quit", "b"), 2, "a"])

    def test_refused_steps_are_skipped(self):
        # Behind the fourth step f is refused what e wrote; Recent(1) would choose nothing else behind a refused step.
        refused = [("read", "f", "x"), ("close", "f", ("x",)), ("close", "f", ("y", "x"))]
        for step in refused:
            steps = self.STEPS[:4] + [step, step] + self.STEPS[4:]
            self.assertEqual(first_fault(steps, Aged()), (8, ["e"], [("read", "a", "x")]))
            self.assertIs(first_fault(steps, Tidy()), None)
            self.assertIs(first_fault(self.STEPS[:4] + [step], Aged()), None)

    def test_behind_a_refused_step_the_habit_is_not_asked(self):
        asked = []

        class Told(Habit):
            def chosen(self, keeper):
                asked.append(told(keeper))
                return []

        steps = self.STEPS[:4] + [("read", "f", "x")] + self.STEPS[4:]
        self.assertIs(first_fault(steps, Told()), None)
        self.assertEqual(asked, [told(Keeper.of(self.STEPS[:at])) for at in range(1, 8)])

    def test_wrong_steps_without_a_fault(self):
        for step, kind in [(("begin", "f"), Taken), (("begin", "e"), Taken), (("quit", "e"), NotRunning),
                           (("read", "z", "x"), NotRunning), (("begin",), InvalidStep), ((), InvalidStep)]:
            for habit in [Habit(), Unled(), Tidy(), Careful(Recent(0)), Aged()]:
                for steps in [self.STEPS[:5] + [step], self.STEPS[:5] + [step, ("begin",)] + self.STEPS[5:]]:
                    with self.assertRaises(KeeperError) as caught:
                        first_fault(steps, habit)
                    self.assertIs(type(caught.exception), kind)

    def test_a_name_that_the_second_keeper_has_forgotten_is_taken(self):
        # Unled forgets e at once in the second keeper; the first one holds it still.
        steps = parse_history("begin e\nclose e x\nbegin e")
        with self.assertRaises(Taken) as caught:
            first_fault(steps, Unled())
        self.assertEqual(caught.exception.program, "e")

    def test_a_name_that_begins_again_behind_a_quit(self):
        steps = parse_history("begin f\nread f x\nquit f\nbegin f\nread f x\nbegin e\nclose e x")
        self.check_fault(steps, Recent(0), 6, ["e"])
        self.assertIs(first_fault(steps, Tidy()), None)

    def test_wrong_steps_behind_a_fault(self):
        for step in [("begin", "f"), ("quit", "e"), ("begin",), ()]:
            self.assertEqual(first_fault(self.STEPS + [step], Aged()), (6, ["e"], [("read", "a", "x")]))
        with self.assertRaises(NotRunning):
            first_fault(self.STEPS[:6] + [("quit", "e")] + self.STEPS[6:], Aged())

    def test_twelve_programs(self):
        steps = [("begin", "r"), ("read", "r", "x")]
        for at in range(11):
            steps += [("begin", f"e{at}"), ("close", f"e{at}", ("x",))]
        steps.append(("close", "r", ()))
        for habit in [Habit(), Tidy(), Recent(1), Careful(Recent(0))]:
            self.assertIs(first_fault(steps, habit), None)
        self.check_fault(steps, Recent(0), 3, ["e0"])

    def test_random_histories(self):
        """Beside two slow keepers, by the words of point 29."""
        faults = {at: 0 for at in range(len(ALL))}
        for seed in range(12):
            steps = self.random_history(random.Random(seed))
            for at, (make, words) in enumerate(ALL):
                faults[at] += self.check_slowly(steps, make(), words)
        self.assertEqual([at for at in faults if faults[at] and at != 4], [5, 6, 7])
        self.assertGreater(min(faults[at] for at in [5, 6, 7]), 3)

    def test_random_histories_with_aged(self):
        faults = 0
        for seed in range(250):
            faults += self.check_slowly(self.random_history(random.Random(seed), 3), Aged(), slow_aged)
        self.assertGreater(faults, 5)

    def random_history(self, chance, most=5):
        """Give a history in which at most twelve programs begin, some steps of it refused."""
        names = [f"n{number}" for number in range(12)]
        slow, steps = SlowKeeper(), []
        for _ in range(60):
            form = chance.choice(["begin"] * 4 + ["read"] * 8 + ["close"] * 3)
            if form == "begin" and names and len(slow.running) < most:
                steps.append(("begin", names.pop()))
            elif form == "read" and slow.running:
                steps.append(("read", chance.choice(slow.running), chance.choice(THINGS[:4])))
            elif form == "close" and len(slow.running) > 1:
                things = tuple(chance.sample(THINGS[:4], chance.choice([0, 1, 1, 2])))
                steps.append((form, chance.choice(slow.running), things))
            else:
                continue
            slow.take(steps[-1])
        return steps

    def check_slowly(self, steps, habit, words):
        """Check a first fault, and tell whether there is one."""
        wanted, found = self.slow_fault(steps, words), first_fault(list(steps), habit)
        self.assertEqual(wanted is None, found is None)
        if found is None:
            return False
        place, lot, one, other = wanted
        self.assertEqual(found[:2], (place, lot))
        self.check_future(found[2], one, other)
        return True

    def slow_fault(self, steps, words):
        whole, tidied = SlowKeeper(), SlowKeeper()
        for place, step in enumerate(steps):
            if not whole.take(step):
                continue
            self.assertTrue(tidied.take(step))
            lot = words(tidied)
            tidied.forget(lot)
            if whole.memory() != tidied.memory():
                return (place, lot, whole.memory(), tidied.memory())

    def check_future(self, future, one, other):
        one, other = Memory(*one), Memory(*other)
        self.assertTrue(is_test(future, one.running))
        self.assertTrue(parts_memories(future, one, other))
        for shorter in all_futures_that_are_tests(one, other):
            if len(shorter) >= len(future):
                break
            self.assertFalse(parts_memories(shorter, one, other))


if __name__ == "__main__":
    unittest.main()
