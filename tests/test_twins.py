import itertools
import random
import unittest

from letforget import twins
from letforget.errors import Full, InvalidStep, KeeperError, NotRunning, Refused, Ring, Taken, Unlike
from letforget.keeper import Keeper
from letforget.memory import Memory
from letforget.steps import parse_history, valid_name, valid_step
from letforget.twins import parting, shortest_parting, trimmed, verdicts
from tests.model import SlowKeeper, all_memories, parts, random_step, told
from tests.test_forgetting import is_test
from tests.test_keeper_models import NAMES, THINGS
from tests.test_steps import NO_STEPS

PROGRAMS = ["p0", "p1", "p2", "p3", "p4", "p5", "p6", "p7"]
TWELVE = [f"x{number}" for number in range(12)]


def verdict(memory, step):
    """Give the next memory, or the error."""
    try:
        return memory.after(step)
    except KeeperError as error:
        return error


def parts_memories(future, one, other):
    """Tell whether a list of steps parts two memories, and take its steps (point 21)."""
    begun = [step[1] for step in future if step[0] == "begin"]
    if len(set(begun)) < len(begun) or set(begun) & set(one.running + other.running):
        return False
    for step in future[:-1]:
        one, other = verdict(one, step), verdict(other, step)
        if not (isinstance(one, Memory) and isinstance(other, Memory)):
            return False
        if max(len(one.running), len(other.running)) > 8:
            return False
    last = [verdict(one, future[-1]), verdict(other, future[-1])]
    lets = [isinstance(found, Memory) for found in last]
    return sorted(lets) == [False, True] and type(last[lets.index(False)]) in [Refused, NotRunning]


def all_futures_that_are_tests(one, other):
    """Give each test of two memories with the same running programs, the shorter ones first."""
    things = sorted({thing for _, thing, _ in one.marks + other.marks} | {"fresh"})
    for many in range(len(one.running)):
        for gone in itertools.combinations(one.running, many):
            for program in one.running:
                if program not in gone:
                    for thing in things:
                        for last in [("read", program, thing), ("close", program, (thing,))]:
                            yield [("quit", name) for name in gone] + [last]


def random_memory(chance, running, things, many_leads, many_marks):
    pairs = list(itertools.permutations(running, 2))
    places = list(itertools.product(running, things))
    leads = chance.sample(pairs, min(len(pairs), many_leads))
    marks = [place + (chance.choice(["own", "read", "write"]),)
             for place in chance.sample(places, min(len(places), many_marks))]
    return (running, leads, marks)


def changed(chance, lists, things):
    """Give the lists of a memory with a lead or a mark more or less, or another mark."""
    running, leads, marks = lists
    pair = tuple(chance.sample(running, 2)) if len(running) > 1 else None
    if pair and chance.random() < 0.5:
        return (running, [lead for lead in leads if lead != pair] + [pair] * (pair not in leads), marks)
    program, thing = chance.choice(running), chance.choice(things)
    word = chance.choice(["none", "own", "read", "write"])
    rest = [mark for mark in marks if mark[:2] != (program, thing)]
    return (running, leads, rest + [(program, thing, word)] * (word != "none"))


class Interface(unittest.TestCase):

    def test_each_is_defined_in_this_file(self):
        for name in ["verdicts", "parting", "shortest_parting", "trimmed"]:
            self.assertEqual(getattr(twins, name).__module__, "letforget.twins")


class Verdicts(unittest.TestCase):

    HISTORY = "begin a\nread a x\nbegin b\nclose b x"

    def check(self, keeper, text, wanted):
        before, steps = told(keeper), parse_history(text)
        passed = list(steps)
        found = verdicts(keeper, passed)
        self.assertEqual(found, wanted)
        self.assertEqual(passed, steps)
        self.assertTrue(all(one is True or one is False for one in found))
        self.assertEqual(told(keeper), before)

    def test_let_and_refused_steps(self):
        self.check(Keeper(), "", [])
        self.check(Keeper(), self.HISTORY + "\nread a x", [True, True, True, True, False])
        self.check(Keeper.read(self.HISTORY), "read a x\nread a y\nclose a x y\nclose a y\nbegin c\nread c x\nquit c",
                   [False, True, False, True, True, True, True])

    def test_after_a_refused_step_the_next_one_is_tried(self):
        self.check(Keeper.read(self.HISTORY), "read a x\nread a x\nclose a x\nclose a\nbegin d",
                   [False, False, False, True, True])

    def test_wrong_steps(self):
        wrong = [(("begin", "a"), Taken), (("begin", "b"), Taken), (("quit", "b"), NotRunning),
                 (("read", "z", "x"), NotRunning), (("begin",), InvalidStep), ((), InvalidStep)]
        for ahead in ["", "read a x", "read a y", "begin c\nread c x\nclose c y\nread a y"]:
            for step, kind in wrong:
                keeper = Keeper.read(self.HISTORY)
                before = told(keeper)
                for later in [[], [("quit", "a")], [("begin",)]]:
                    with self.assertRaises(KeeperError) as caught:
                        verdicts(keeper, parse_history(ahead) + [step] + later)
                    self.assertIs(type(caught.exception), kind)
                    self.assertEqual(told(keeper), before)

    def test_the_first_wrong_step_counts(self):
        with self.assertRaises(NotRunning) as caught:
            verdicts(Keeper(), [("begin", "a"), ("quit", "z"), ("begin", "a")])
        self.assertEqual(caught.exception.program, "z")

    def test_the_limit(self):
        keeper = Keeper(limit=1)
        keeper |= parse_history("begin r\nread r x\nread r y\nbegin e\nclose e x\nbegin f")
        before = told(keeper)
        for ahead in [[], [("read", "r", "x")]]:
            with self.assertRaises(Full) as caught:
                verdicts(keeper, ahead + [("close", "f", ("y",))])
            self.assertEqual(caught.exception.needed, 2)
            self.assertEqual(told(keeper), before)
        # e is forgotten, so that its name may begin again.
        self.check(keeper, "close f x y\nbegin e\nread r x\nclose e z", [True, True, False, True])
        with self.assertRaises(Taken):
            verdicts(Keeper.read(self.HISTORY), [("begin", "c"), ("close", "c", ("x",)), ("begin", "b")])

    def test_as_if_the_keeper_itself_were_called(self):
        for seed in range(60):
            chance = random.Random(seed)
            keeper, slow = Keeper(limit=12), SlowKeeper()
            steps = []
            for _ in range(60):
                step = random_step(chance, slow, NAMES, THINGS[:4])
                steps.append(step)
                slow.take(step)
            cut = chance.randint(0, 40)
            for step in steps[:cut]:
                verdict_of(keeper, step)
            before = told(keeper)
            found = verdicts(keeper, steps[cut:])
            self.assertEqual(told(keeper), before)
            self.assertEqual(found, [verdict_of(keeper, step) for step in steps[cut:]])


def verdict_of(keeper, step):
    try:
        keeper(step)
    except Refused:
        return False
    return True


class Parting(unittest.TestCase):

    def check(self, one, other, taken=()):
        before = [parts(one), parts(other)]
        future = parting(one, other, taken=taken)
        self.assertEqual([parts(one), parts(other)], before)
        if before[0] == before[1]:
            self.assertIs(future, None)
            return
        self.assertIsInstance(future, list)
        self.assertTrue(all(valid_step(step) for step in future))
        self.assertLessEqual(len(future), len(one.running) + 2)
        self.assertTrue(parts_memories(future, one, other), (before, future))
        known = {thing for _, thing, _ in one.marks + other.marks}
        used = {thing for step in future if step[0] in ["read", "close"]
                for thing in ([step[2]] if step[0] == "read" else step[2])}
        self.assertLessEqual(len(used - known), 1)
        begun = [step[1] for step in future if step[0] == "begin"]
        self.assertFalse(set(begun) & (set(taken) | set(one.running) | set(other.running)))

    def test_each_pair_of_memories_of_two_programs_and_one_thing(self):
        memories = [Memory(*lists) for lists in all_memories(["a", "b"], ["x"])]
        for one, other in itertools.product(memories, memories):
            self.check(one, other)

    def test_each_pair_of_memories_of_no_and_of_one_program(self):
        memories = [Memory.empty()] + [Memory(*lists) for name in ["a", "b"] for lists in all_memories([name], ["x", "y"])]
        for one, other in itertools.product(memories, memories):
            self.check(one, other)

    def test_other_running_programs(self):
        for some, others in [([], ["a"]), (["a"], []), (["a"], ["b"]), (["a", "b"], ["b"]), (["b"], ["a", "b", "c"]),
                             (PROGRAMS, PROGRAMS[:7]), (PROGRAMS[1:], PROGRAMS), (PROGRAMS, []), ([], PROGRAMS),
                             (PROGRAMS, [name + "a" for name in PROGRAMS]), (["ab"], ["a", "b"])]:
            self.check(Memory(some, [], []), Memory(others, [], []))
            self.check(Memory(some, list(itertools.permutations(some, 2)), [(name, "x", "write") for name in some]),
                       Memory(others, [], [(name, "x", "own") for name in others]))

    def test_one_lead(self):
        full = list(itertools.permutations(PROGRAMS, 2))
        marks = [(name, thing, "write") for name in PROGRAMS for thing in TWELVE]
        for some in [[], marks]:
            for lead in [("p0", "p1"), ("p7", "p3")]:
                self.check(Memory(PROGRAMS, [], some), Memory(PROGRAMS, [lead], some))
                self.check(Memory(PROGRAMS, [lead], some), Memory(PROGRAMS, [], some))
                rest = [pair for pair in full if pair != lead]
                self.check(Memory(PROGRAMS, full, some), Memory(PROGRAMS, rest, some))
                self.check(Memory(PROGRAMS, rest, some), Memory(PROGRAMS, full, some))

    def test_two_leads_that_are_turned_round(self):
        self.check(Memory(["a", "b"], [("a", "b")], []), Memory(["a", "b"], [("b", "a")], []))
        self.check(Memory(["a", "b", "c"], [("a", "b")], []), Memory(["a", "b", "c"], [("a", "b"), ("b", "a")], []))

    def test_one_mark(self):
        full = list(itertools.permutations(PROGRAMS, 2))
        words = ["none", "own", "read", "write"]
        rest = [(name, thing, "write") for name in PROGRAMS for thing in TWELVE if (name, thing) != ("p4", "x5")]
        for leads, marks in itertools.product([[], full], [[], rest]):
            for one, other in itertools.product(words, words):
                memories = [Memory(PROGRAMS, leads, marks + [("p4", "x5", word)] * (word != "none"))
                            for word in [one, other]]
                self.check(*memories)

    def test_names_that_are_taken(self):
        one, other = Memory(["a"], [], [("a", "x", "own")]), Memory(["a"], [], [])
        self.check(one, other)
        self.check(one, other, taken=())
        barred = []
        for _ in range(40):
            self.check(one, other, taken=tuple(barred))
            future = parting(one, other, taken=tuple(barred))
            begun = [step[1] for step in future if step[0] == "begin"]
            self.assertEqual(len(begun), 1)
            self.assertTrue(valid_name(begun[0]))
            barred += begun
        self.check(one, other, taken=tuple(barred))
        # Names that are taken though they run, and things whose names would be chosen.
        self.check(one, other, taken=("a", "x"))
        running = ["a"] + barred[:7]
        self.check(Memory(running, [], [("a", "x", "own")]), Memory(running, [], []), taken=tuple(barred[7:]))
        marks = [("a", name, "own") for name in barred[:12]]
        for lead in [("a", "b"), ("b", "a")]:
            self.check(Memory(["a", "b"], [lead], marks), Memory(["a", "b"], [], marks))
        self.check(Memory(["a"], [], marks), Memory(["a"], [], marks[1:]), taken=tuple(barred))

    def test_the_new_thing_has_no_mark_in_either_memory(self):
        for word, lead in itertools.product(["own", "read", "write"], [("a", "b"), ("b", "a")]):
            for in_one, in_other in [(True, True), (True, False), (False, True)]:
                marks = []
                for _ in range(10):
                    one = Memory(["a", "b"], [lead], marks * in_one)
                    other = Memory(["a", "b"], [], marks * in_other)
                    self.check(one, other)
                    self.check(other, one)
                    # The next time the thing that was used has marks.
                    thing = parting(one, other)[-1][2][0]
                    self.assertTrue(valid_name(thing))
                    self.assertNotIn(thing, [mark[1] for mark in marks])
                    marks = marks + [("a", thing, word), ("b", thing, word)]

    def test_taken_is_passed_by_its_name(self):
        self.assertRaises(TypeError, parting, Memory.empty(), Memory.empty(), ())

    def test_a_future_parts_the_keepers_too(self):
        keeper = Keeper.read("begin a\nread a x\nbegin n0\nclose n0 y\nbegin n1\nclose n1")
        other = Keeper.read("begin a\nbegin n0\nclose n0 y\nbegin n1\nclose n1")
        taken = ("n0", "n1")
        future = parting(keeper.memory(), other.memory(), taken=taken)
        self.assertFalse(set(taken) & {step[1] for step in future})
        found = [verdicts(one, future) for one in [keeper, other]]
        self.assertEqual([one[:-1] for one in found], [[True] * (len(future) - 1)] * 2)
        self.assertEqual(sorted(one[-1] for one in found), [False, True])

    def test_random_memories(self):
        chance = random.Random(26)
        for _ in range(600):
            running = PROGRAMS[:chance.randint(1, 8)]
            things = TWELVE[:chance.randint(1, 12)]
            lists = random_memory(chance, running, things, chance.randint(0, 56), chance.randint(0, 96))
            one, other = Memory(*lists), Memory(*changed(chance, lists, things))
            self.check(one, other)
            self.check(other, one)
            third = random_memory(chance, chance.sample(PROGRAMS, chance.randint(0, 8)), things, 9, 9)
            self.check(one, Memory(*third))


class ShortestParting(unittest.TestCase):

    def check(self, one, other):
        before = [parts(one), parts(other)]
        found = shortest_parting(one, other)
        self.assertEqual([parts(one), parts(other)], before)
        if found is not None:
            self.assertTrue(is_test(found, one.running))
            self.assertTrue(parts_memories(found, one, other))
        for future in all_futures_that_are_tests(one, other):
            if found is not None and len(future) >= len(found):
                break
            self.assertFalse(parts_memories(future, one, other), (before, found, future))
        return found

    def test_equal_memories(self):
        for lists in all_memories(["a", "b"], ["x"]):
            self.assertIs(shortest_parting(Memory(*lists), Memory(*lists)), None)
        self.assertIs(shortest_parting(Memory.empty(), Memory.of([])), None)

    def test_unlike(self):
        for some, others in [([], ["a"]), (["a"], []), (["a"], ["b"]), (["a", "b"], ["a"]), (["a"], ["a", "b"])]:
            with self.assertRaises(Unlike) as caught:
                shortest_parting(Memory(some, [], []), Memory(others, [], []))
            self.assertIs(type(caught.exception), Unlike)

    def test_memories_that_no_test_parts(self):
        # A lead alone, or the mark own in one of them, shows only behind further steps.
        for one, other in [
            (Memory(["a", "b"], [("a", "b")], []), Memory(["a", "b"], [], [])),
            (Memory(["a"], [], [("a", "x", "own")]), Memory(["a"], [], [])),
            (Memory(["a", "b"], [], [("a", "x", "own")]), Memory(["a", "b"], [], [("b", "x", "own")])),
        ]:
            self.assertIs(self.check(one, other), None)
            self.assertIs(self.check(other, one), None)
            self.assertIsNot(parting(one, other), None)

    def test_one_step(self):
        empty = Memory(["a"], [], [])
        self.assertEqual(self.check(Memory(["a"], [], [("a", "x", "read")]), empty), [("close", "a", ("x",))])
        self.assertIn(self.check(Memory(["a"], [], [("a", "x", "write")]), empty),
                      [[("close", "a", ("x",))], [("read", "a", "x")]])
        self.assertEqual(
            self.check(Memory(["a"], [], [("a", "x", "write")]), Memory(["a"], [], [("a", "x", "read")])),
            [("read", "a", "x")],
        )
        lead, mark = [("a", "b")], [("b", "x", "own")]
        self.assertEqual(self.check(Memory(["a", "b"], lead, mark), Memory(["a", "b"], [], mark)),
                         [("close", "a", ("x",))])

    def test_with_quits(self):
        # As long as b runs, a is refused in both; the same with b and c.
        leads, marks = [("a", "b"), ("a", "c")], [("b", "x", "write"), ("c", "x", "write")]
        one = Memory(["a", "b", "c"], leads, marks + [("a", "x", "write")])
        other = Memory(["a", "b", "c"], leads, marks)
        self.assertEqual(len(self.check(one, other)), 3)
        leads, marks = leads[:1], marks[:1]
        one, other = Memory(["a", "b"], leads, marks + [("a", "x", "read")]), Memory(["a", "b"], leads, marks)
        self.assertEqual(self.check(one, other), [("quit", "b"), ("close", "a", ("x",))])

    def test_a_quit_that_keeps_a_way_open(self):
        # a reaches d over b or over c; in the other memory only over c.
        one = Memory(["a", "b", "c", "d"], [("a", "b"), ("a", "c"), ("b", "d"), ("c", "d")], [("d", "x", "write")])
        other = Memory(["a", "b", "c", "d"], [("a", "b"), ("a", "c"), ("c", "d")], [("d", "x", "write")])
        found = self.check(one, other)
        self.assertEqual([len(found), found[-1][1]], [1, "b"])
        marks = [("d", "x", "write"), ("b", "x", "write")]
        one, other = Memory(one.running, one.leads, marks), Memory(other.running, other.leads, marks)
        self.assertIs(self.check(one, other), None)

    def test_each_pair_of_memories_of_two_programs_and_one_thing(self):
        memories = [Memory(*lists) for lists in all_memories(["a", "b"], ["x"])]
        for one, other in itertools.product(memories, memories):
            self.check(one, other)

    def test_some_pairs_of_memories_of_three_programs(self):
        chance = random.Random(21)
        memories = [Memory(*lists) for lists in all_memories(["a", "b", "c"], ["x"])]
        for _ in range(300):
            self.check(chance.choice(memories), chance.choice(memories))

    def test_random_pairs_that_differ_little(self):
        chance = random.Random(22)
        lengths = set()
        for _ in range(400):
            running = PROGRAMS[:chance.randint(1, 5)]
            things = TWELVE[:chance.randint(1, 3)]
            lists = random_memory(chance, running, things, chance.randint(0, 12), chance.randint(0, 12))
            one, other = Memory(*lists), Memory(*changed(chance, lists, things))
            found = self.check(one, other)
            exchanged = self.check(other, one)
            self.assertEqual(found is None, exchanged is None)
            lengths.add(found and len(found))
            self.assertEqual(found and len(found), exchanged and len(exchanged))
        self.assertGreaterEqual(lengths, {None, 1, 2, 3})


class Trimmed(unittest.TestCase):

    def check(self, steps):
        """Check the words of point 27, and give what is left."""
        whole = parts(Memory.of(steps))
        kept = list(steps)
        for program in [step[1] for step in steps if step[0] == "begin"]:
            rest = [step for step in kept if step[1] != program]
            if program not in whole[0] and parts(Memory.of(rest)) == whole:
                kept = rest
        passed = list(steps)
        found = trimmed(passed)
        self.assertIsInstance(found, list)
        self.assertIsNot(found, passed)
        self.assertEqual([found, passed], [kept, steps])
        self.assertEqual(parts(Memory.of(found)), whole)
        # No further program can be left out, and those that run stay.
        for program in {step[1] for step in found} - set(whole[0]):
            self.assertNotEqual(parts(Memory.of([step for step in found if step[1] != program])), whole)
        for program in whole[0]:
            self.assertEqual([step for step in found if step[1] == program],
                             [step for step in steps if step[1] == program])
        return found

    def test_the_empty_list(self):
        self.assertEqual(self.check([]), [])

    def test_running_programs_stay(self):
        steps = parse_history("begin a\nread a x\nbegin b")
        self.assertEqual(self.check(steps), steps)

    def test_programs_that_have_quit_go(self):
        self.assertEqual(self.check(parse_history("begin a\nread a x\nbegin b\nread b x\nquit a")),
                         parse_history("begin b\nread b x"))

    def test_without_running_programs_nothing_is_left(self):
        self.assertEqual(self.check(parse_history("begin a\nread a x\nbegin b\nclose b x\nclose a y")), [])

    def test_ended_programs_that_are_needed_stay(self):
        steps = parse_history("begin a\nread a x\nread a y\nbegin b\nclose b x\nbegin c\nclose c y")
        self.assertEqual(self.check(steps), steps)

    def test_the_order_in_which_they_begin(self):
        # b and c write the same; b begins first, though it ends last.
        steps = parse_history("begin a\nread a x\nbegin b\nbegin c\nclose c x\nclose b x")
        self.assertEqual(self.check(steps), parse_history("begin a\nread a x\nbegin c\nclose c x"))
        steps = parse_history("begin a\nread a x\nbegin c\nbegin b\nclose c x\nclose b x")
        self.assertEqual(self.check(steps), parse_history("begin a\nread a x\nbegin b\nclose b x"))

    def test_what_has_been_left_out_stays_out(self):
        # d is tried last: it stays, because b and c are out already.
        steps = parse_history("begin a\nread a x\nbegin b\nclose b x\nbegin c\nclose c x\nbegin d\nclose d x")
        self.assertEqual(self.check(steps), parse_history("begin a\nread a x\nbegin d\nclose d x"))

    def test_a_program_that_others_lead_over(self):
        steps = parse_history("begin a\nread a x\nbegin b\nread b y\nclose b x\nbegin c\nclose c y")
        self.assertEqual(self.check(steps), steps)

    def test_wrong_steps(self):
        good = "begin a\nread a x\nbegin b\nclose b x\nbegin c\nquit c"
        wrong = [(("begin", "a"), Taken, "a"), (("quit", "b"), NotRunning, "b"), (("read", "c", "x"), NotRunning, "c"),
                 (("close", "z", ()), NotRunning, "z")]
        for step, kind, program in wrong:
            for later in [[], [("begin",)], [("quit", "y")]]:
                steps = parse_history(good) + [step] + later
                with self.assertRaises(kind) as caught:
                    trimmed(steps)
                self.assertIs(type(caught.exception), kind)
                self.assertEqual(caught.exception.program, program)
        for step in NO_STEPS:
            with self.assertRaises(InvalidStep) as caught:
                trimmed(parse_history(good) + [step, ("begin", "a")])
            self.assertEqual(caught.exception.step, step)

    def test_a_refused_step(self):
        steps = parse_history("begin a\nread a x\nbegin b\nclose b x\nclose a y x\nquit z")
        with self.assertRaises(Refused) as caught:
            trimmed(steps)
        error = caught.exception
        self.assertEqual([error.step, error.ring], [("close", "a", ("y", "x")), ["a"]])
        self.assertIs(type(error.__cause__), Ring)
        self.assertEqual(error.__cause__.programs, error.ring)
        self.assertIsNot(error.__cause__.programs, error.ring)

    def test_a_begin_of_an_ended_program_is_let(self):
        # That the steps are let is judged by a memory, which does not know the names of ended programs.
        with self.assertRaises(NotRunning):
            trimmed(parse_history("begin a\nclose a\nbegin a\nquit b"))

    def test_random_histories(self):
        left_out, stayed = 0, 0
        for seed in range(120):
            chance = random.Random(seed)
            slow, steps = SlowKeeper(), []
            names = [f"n{number}" for number in range(60)]
            for _ in range(60):
                step = random_step(chance, slow, names, THINGS[:4])
                if slow.take(step):
                    steps.append(step)
                    names = [name for name in names if step != ("begin", name)]
            found = self.check(steps)
            ended = {step[1] for step in found} - set(slow.running)
            left_out += len({step[1] for step in steps} - {step[1] for step in found})
            stayed += len(ended)
        self.assertGreater(left_out, 300)
        self.assertGreater(stayed, 100)


class DocumentExample(unittest.TestCase):

    def test_trimmed(self):
        self.assertEqual(
            trimmed(parse_history("begin a\nread a x\nbegin b\nclose b x\nbegin c\nclose c x\nbegin d\nquit d")),
            [("begin", "a"), ("read", "a", "x"), ("begin", "c"), ("close", "c", ("x",))],
        )


if __name__ == "__main__":
    unittest.main()
