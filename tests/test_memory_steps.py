import itertools
import random
import unittest

from letforget.errors import InvalidStep, KeeperError, NotRunning, Refused, Ring, Taken
from letforget.memory import Memory
from letforget.steps import parse_history, parse_step
from tests.model import SlowKeeper, all_memories, all_paths, parts, slow_next
from tests.test_steps import NO_STEPS


class Checks(unittest.TestCase):

    def gives(self, memory, line, running, leads, marks):
        before = parts(memory)
        after = memory.after(parse_step(line))
        self.assertIsInstance(after, Memory)
        self.assertEqual(parts(after), (running, leads, marks))
        self.assertEqual(parts(memory), before)

    def error_of(self, memory, step, kind):
        before = parts(memory)
        with self.assertRaises(KeeperError) as caught:
            memory.after(step)
        self.assertIs(type(caught.exception), kind)
        self.assertEqual(parts(memory), before)
        return caught.exception

    def refuses(self, memory, line, *rings):
        step = parse_step(line)
        error = self.error_of(memory, step, Refused)
        self.assertEqual(error.step, step)
        self.assertIsInstance(error.ring, list)
        self.assertIn(error.ring, rings)
        self.assertIs(type(error.__cause__), Ring)
        self.assertEqual(error.__cause__.programs, error.ring)
        self.assertIsNot(error.__cause__.programs, error.ring)


class Errors(Checks):

    def test_what_is_no_step(self):
        for memory in [Memory.empty(), Memory(["a", "b"], [("a", "b")], [("b", "x", "write")])]:
            for step in NO_STEPS:
                with self.subTest(step):
                    self.assertEqual(self.error_of(memory, step, InvalidStep).step, step)

    def test_taken(self):
        for program in ["a", "b"]:
            error = self.error_of(Memory(["b", "a"], [("a", "b")], []), ("begin", program), Taken)
            self.assertEqual(error.program, program)

    def test_an_ended_program_is_not_taken(self):
        for end in ["close b x", "quit b"]:
            memory = Memory.of(parse_history("begin a\nread a x\nbegin b\n" + end))
            self.assertEqual(memory.after(("begin", "b")).running, ["a", "b"])

    def test_not_running(self):
        memory = Memory(["a", "b"], [("a", "b")], [("b", "x", "write")])
        for program in ["c", "ab", "x"]:
            for step in [("read", program, "x"), ("close", program, ()), ("close", program, ("x",)), ("quit", program)]:
                self.assertEqual(self.error_of(memory, step, NotRunning).program, program)
                self.assertEqual(self.error_of(Memory.empty(), step, NotRunning).program, program)

    def test_the_order_of_the_errors(self):
        memory = Memory(["a"], [], [("a", "x", "write")])
        # No step comes before taken, not running and refused.
        for step in [("begin", "a", "a"), ("read", "b", "X"), ("read", "a", ("x",)), ("close", "a", ("x", "x")),
                     ("close", "b", ("x", "x")), ("quit", "b", ())]:
            self.assertEqual(self.error_of(memory, step, InvalidStep).step, step)
        self.refuses(memory, "read a x", ["a"])

    def test_a_program_ends_once(self):
        memory = Memory.of(parse_history("begin a\nbegin b\nclose a x"))
        self.assertEqual(self.error_of(memory, ("close", "a", ("x",)), NotRunning).program, "a")
        self.assertEqual(self.error_of(memory, ("read", "a", "x"), NotRunning).program, "a")


class Begin(Checks):

    def test_a_begin_adds_a_program_without_anything(self):
        self.gives(Memory.empty(), "begin a", ["a"], [], [])
        memory = Memory(["b", "c"], [("c", "b")], [("b", "a", "own"), ("c", "x", "write")])
        self.gives(memory, "begin a", ["a", "b", "c"], [("c", "b")], [("b", "a", "own"), ("c", "x", "write")])

    def test_a_name_begins_again(self):
        memory = Memory.of(parse_history("begin a\nread a x\nbegin b\nclose b x"))
        self.assertEqual(memory.marks, [("a", "x", "write")])
        for end in ["quit a", "close a y"]:
            again = memory.after(parse_step(end)).after(("begin", "a"))
            self.assertEqual(parts(again), (["a"], [], []))

    def test_more_programs_than_the_bounds_allow(self):
        steps = [("begin", "p" + str(number)) for number in range(100)]
        self.assertEqual(Memory.of(steps).running, sorted([step[1] for step in steps]))


class Read(Checks):

    def test_the_mark_becomes_own_if_it_is_none(self):
        for word, after in [("none", "own"), ("own", "own"), ("read", "read")]:
            marks = [("a", "y", "write")] + [("a", "x", word)] * (word != "none")
            self.gives(Memory(["a"], [], marks), "read a x", ["a"], [], [("a", "x", after), ("a", "y", "write")])

    def test_only_the_reading_programs_mark_changes(self):
        memory = Memory(["a", "b"], [], [("b", "x", "own"), ("b", "y", "read")])
        self.gives(memory, "read a x", ["a", "b"], [], [("a", "x", "own"), ("b", "x", "own"), ("b", "y", "read")])

    def test_each_other_program_with_the_mark_write_leads_to_it(self):
        marks = [("b", "x", "write"), ("c", "x", "read"), ("d", "x", "own"), ("e", "y", "write"), ("f", "x", "write")]
        running = ["a", "b", "c", "d", "e", "f"]
        self.gives(
            Memory(running, [("b", "c"), ("c", "d")], marks), "read a x",
            running, [("b", "a"), ("b", "c"), ("c", "d"), ("f", "a")], [("a", "x", "own")] + marks,
        )

    def test_a_lead_that_is_there_already(self):
        memory = Memory(["a", "b"], [("b", "a")], [("b", "x", "write")])
        self.gives(memory, "read a x", ["a", "b"], [("b", "a")], [("a", "x", "own"), ("b", "x", "write")])
        self.gives(
            memory.after(("read", "a", "x")), "read a x",
            ["a", "b"], [("b", "a")], [("a", "x", "own"), ("b", "x", "write")],
        )

    def test_refused_for_its_own_mark(self):
        self.refuses(Memory(["a"], [], [("a", "x", "write")]), "read a x", ["a"])
        self.refuses(Memory(["a", "b"], [("a", "b")], [("a", "x", "write"), ("b", "x", "write")]), "read a x", ["a"])

    def test_refused_over_one_two_and_three_leads(self):
        running = ["a", "b", "c", "d"]
        chain = [("a", "b"), ("b", "c"), ("c", "d")]
        for length in [1, 2, 3]:
            memory = Memory(running, chain, [(running[length], "x", "write")])
            self.refuses(memory, "read a x", running[:length + 1])
            for word in ["own", "read"]:
                memory = Memory(running, chain, [(running[length], "x", word)])
                self.assertEqual(memory.after(("read", "a", "x")).leads, chain)

    def test_refused_with_a_shortest_ring(self):
        memory = Memory(
            ["a", "b", "c", "d", "e"],
            [("a", "b"), ("b", "c"), ("c", "d"), ("a", "e"), ("e", "d")],
            [("d", "x", "write")],
        )
        self.refuses(memory, "read a x", ["a", "e", "d"])
        more = Memory(memory.running, [("b", "d")], [])
        self.refuses(memory | more, "read a x", ["a", "e", "d"], ["a", "b", "d"])
        more = Memory(memory.running, [], [("c", "x", "write")])
        self.refuses(memory | more, "read a x", ["a", "b", "c"], ["a", "e", "d"])
        more = Memory(memory.running, [], [("b", "x", "write")])
        self.refuses(memory | more, "read a x", ["a", "b"])

    def test_not_refused_for_leads_that_lead_to_it(self):
        memory = Memory(["a", "b", "c"], [("b", "a"), ("c", "b")], [("c", "x", "write")])
        self.gives(
            memory, "read a x", ["a", "b", "c"],
            [("b", "a"), ("c", "a"), ("c", "b")], [("a", "x", "own"), ("c", "x", "write")],
        )

    def test_not_refused_for_a_mark_on_another_thing(self):
        memory = Memory(["a", "b"], [("a", "b")], [("a", "y", "write"), ("b", "y", "write"), ("b", "xx", "write")])
        self.assertEqual(memory.after(("read", "a", "x")).leads, [("a", "b")])

    def test_rings_of_leads(self):
        ring = [("a", "b"), ("b", "c"), ("c", "a")]
        memory = Memory(["a", "b", "c"], ring, [("c", "x", "write")])
        self.refuses(memory, "read a x", ["a", "b", "c"])
        self.refuses(memory, "read b x", ["b", "c"])
        self.refuses(memory, "read c x", ["c"])
        self.gives(memory, "read a y", ["a", "b", "c"], ring, [("a", "y", "own"), ("c", "x", "write")])


class Close(Checks):

    def test_a_close_of_nothing(self):
        self.gives(Memory(["a"], [], [("a", "x", "write")]), "close a", [], [], [])
        memory = Memory(
            ["a", "b", "c"], [("b", "a")],
            [("a", "v", "own"), ("a", "w", "read"), ("a", "x", "write"), ("b", "x", "own"), ("c", "w", "own")],
        )
        self.gives(
            memory, "close a", ["b", "c"], [],
            [("b", "v", "read"), ("b", "w", "read"), ("b", "x", "write"), ("c", "w", "own")],
        )

    def test_passed_marks(self):
        # The follower's mark, the closing program's one, and what comes out of both.
        wanted = {
            "none": ["none", "read", "read", "write"],
            "own": ["own", "read", "read", "write"],
            "read": ["read", "read", "read", "write"],
            "write": ["write", "write", "write", "write"],
        }
        words = ["none", "own", "read", "write"]
        for follower, closing in itertools.product(words, range(4)):
            marks = [("b", "y", follower), ("a", "y", words[closing])]
            memory = Memory(["a", "b"], [("b", "a")], [mark for mark in marks if mark[2] != "none"])
            after = wanted[follower][closing]
            self.gives(memory, "close a", ["b"], [], [("b", "y", after)] * (after != "none"))
            self.gives(memory, "close a x", ["b"], [],
                       [("b", "x", "write")] + [("b", "y", after)] * (after != "none"))

    def test_a_thing_of_the_close_passes_write_on(self):
        for word in ["none", "own"]:
            marks = [("a", "x", "own")] * (word == "own")
            self.gives(Memory(["a", "b"], [("b", "a")], marks), "close a x", ["b"], [], [("b", "x", "write")])

    def test_followers_by_marks(self):
        for word in ["own", "read", "write"]:
            memory = Memory(["a", "b", "c"], [], [("a", "y", "own"), ("b", "x", word), ("c", "y", word)])
            self.gives(
                memory, "close a x", ["b", "c"], [],
                [("b", "x", "write"), ("b", "y", "read"), ("c", "y", word)],
            )

    def test_followers_by_one_of_many_things(self):
        marks = [("a", "u", "own"), ("b", "x", "own"), ("c", "z", "read"), ("d", "u", "own"), ("e", "y", "write")]
        memory = Memory(["a", "b", "c", "d", "e"], [], marks)
        followed = [(name, thing, word) for name in ["b", "c", "e"]
                    for thing, word in [("u", "read"), ("x", "write"), ("y", "write"), ("z", "write")]]
        self.gives(memory, "close a z x y", ["b", "c", "d", "e"], [], sorted(followed + [("d", "u", "own")]))

    def test_no_followers(self):
        memory = Memory(["a", "b"], [("a", "b")], [("a", "x", "own"), ("b", "y", "write"), ("b", "x", "own")])
        self.gives(memory, "close a", ["b"], [], [("b", "x", "own"), ("b", "y", "write")])
        self.gives(memory, "close a z", ["b"], [], [("b", "x", "own"), ("b", "y", "write")])

    def test_followers_lead_on(self):
        memory = Memory(
            ["a", "b", "c", "d", "e"],
            [("a", "d"), ("a", "e"), ("b", "a"), ("b", "d"), ("d", "e")],
            [("c", "x", "own")],
        )
        self.gives(
            memory, "close a x", ["b", "c", "d", "e"],
            [("b", "d"), ("b", "e"), ("c", "d"), ("c", "e"), ("d", "e")],
            [("b", "x", "write"), ("c", "x", "write")],
        )

    def test_a_program_that_leads_to_its_follower(self):
        memory = Memory(["a", "b", "c"], [("a", "b"), ("a", "c"), ("b", "a")], [("a", "y", "own")])
        self.gives(memory, "close a", ["b", "c"], [("b", "c")], [("b", "y", "read")])
        memory = Memory(["a", "b", "c"], [("a", "b"), ("a", "c"), ("b", "a"), ("c", "a")], [])
        self.gives(
            memory, "close a x", ["b", "c"], [("b", "c"), ("c", "b")], [("b", "x", "write"), ("c", "x", "write")],
        )

    def test_a_close_of_many_things_in_any_order(self):
        things = ["x" + str(number) for number in range(10, 22)]
        memory = Memory(["a", "b"], [], [("a", "x12", "own"), ("b", "x15", "own")])
        for order in [things, things[::-1]]:
            self.gives(memory, "close a " + " ".join(order), ["b"], [], [("b", thing, "write") for thing in things])

    def test_refused_for_its_own_mark(self):
        for word in ["read", "write"]:
            memory = Memory(["a", "b"], [("a", "b")], [("a", "x", word), ("b", "x", "write")])
            self.refuses(memory, "close a x", ["a"])
            self.refuses(memory, "close a y x", ["a"])
            self.refuses(memory, "close a x y", ["a"])
        self.gives(Memory(["a"], [], [("a", "x", "own")]), "close a x", [], [], [])

    def test_refused_over_one_two_and_three_leads(self):
        running = ["a", "b", "c", "d"]
        chain = [("a", "b"), ("b", "c"), ("c", "d")]
        for length, word in itertools.product([1, 2, 3], ["own", "read", "write"]):
            memory = Memory(running, chain, [(running[length], "x", word)])
            self.refuses(memory, "close a x", running[:length + 1])
            self.refuses(memory, "close a z y x", running[:length + 1])
            self.assertEqual(memory.after(parse_step("close a y z")).running, ["b", "c", "d"])
            self.assertEqual(memory.after(parse_step("close a")).running, ["b", "c", "d"])

    def test_its_own_mark_own_beside_that_of_another_one(self):
        memory = Memory(["a", "b", "c"], [("a", "b"), ("b", "c")], [("a", "x", "own"), ("c", "x", "own")])
        self.refuses(memory, "close a x", ["a", "b", "c"])
        self.refuses(memory, "close b x", ["b", "c"])
        self.gives(memory, "close c x", ["a", "b"], [("a", "b")], [("a", "x", "write"), ("b", "x", "write")])

    def test_its_own_mark_own_in_a_ring_of_leads(self):
        ring = [("a", "b"), ("b", "a")]
        self.gives(Memory(["a", "b"], ring, [("a", "x", "own")]), "close a x", ["b"], [], [("b", "x", "write")])
        self.refuses(Memory(["a", "b"], ring, [("a", "x", "own")]), "close b x", ["b", "a"])

    def test_refused_with_a_shortest_ring_to_any_of_the_things(self):
        memory = Memory(
            ["a", "b", "c", "d", "e"],
            [("a", "b"), ("b", "c"), ("c", "d"), ("a", "e"), ("e", "d")],
            [("c", "x", "own"), ("d", "y", "read"), ("b", "z", "write")],
        )
        self.refuses(memory, "close a x", ["a", "b", "c"])
        self.refuses(memory, "close a y", ["a", "e", "d"])
        self.refuses(memory, "close a y x", ["a", "b", "c"], ["a", "e", "d"])
        self.refuses(memory, "close a x y z", ["a", "b"])

    def test_not_refused_for_leads_that_lead_to_it(self):
        memory = Memory(["a", "b", "c"], [("b", "a"), ("c", "b")], [("c", "x", "write"), ("b", "x", "own")])
        self.gives(memory, "close a x", ["b", "c"], [("c", "b")], [("b", "x", "write"), ("c", "x", "write")])

    def test_rings_of_leads(self):
        ring = [("a", "b"), ("b", "c"), ("c", "a")]
        memory = Memory(["a", "b", "c"], ring, [("c", "x", "own"), ("a", "y", "own")])
        self.refuses(memory, "close a x", ["a", "b", "c"])
        self.refuses(memory, "close b y", ["b", "c", "a"])
        self.gives(
            memory, "close c x", ["a", "b"], [("a", "b"), ("b", "a")], [("a", "y", "own"), ("b", "x", "write")],
        )


class Quit(Checks):

    def test_a_quit_removes_everything_of_the_program(self):
        memory = Memory(
            ["a", "b", "c"], [("a", "b"), ("b", "a"), ("b", "c"), ("c", "a")],
            [("a", "x", "own"), ("a", "y", "write"), ("b", "x", "read"), ("c", "a", "own")],
        )
        self.gives(memory, "quit a", ["b", "c"], [("b", "c")], [("b", "x", "read"), ("c", "a", "own")])
        self.gives(memory, "quit b", ["a", "c"], [("c", "a")],
                   [("a", "x", "own"), ("a", "y", "write"), ("c", "a", "own")])
        self.gives(memory, "quit c", ["a", "b"], [("a", "b"), ("b", "a")],
                   [("a", "x", "own"), ("a", "y", "write"), ("b", "x", "read")])
        self.gives(Memory(["a"], [], []), "quit a", [], [], [])

    def test_names_that_read_the_same_when_joined(self):
        memory = Memory(["a", "ab"], [], [("a", "bc", "own"), ("ab", "c", "own")])
        self.gives(memory, "quit a", ["ab"], [], [("ab", "c", "own")])
        self.gives(memory, "quit ab", ["a"], [], [("a", "bc", "own")])


class Models(Checks):

    def agree(self, lists, step):
        """Compare a step of a memory with what point 15 says in its own words."""
        memory = Memory(*lists)
        wanted = slow_next(*lists, step)
        if isinstance(wanted, list):
            error = self.error_of(memory, step, Refused)
            self.assertIn(error.ring, wanted)
        else:
            self.assertEqual(parts(memory.after(step)), wanted)
            self.assertEqual(parts(memory), tuple(map(sorted, lists)))

    def test_each_memory_of_three_programs_and_one_thing(self):
        for lists in all_memories(["a", "b", "c"], ["x"]):
            for step in [("read", "a", "x"), ("close", "a", ()), ("close", "a", ("x",)), ("quit", "a")]:
                self.agree(lists, step)

    def test_random_memories(self):
        chance = random.Random(12)
        for _ in range(1500):
            running = chance.sample(["a", "b", "ab", "z", "z9", "z10"], chance.randint(1, 6))
            things = chance.sample(["x", "y", "bx", "a", "v"], chance.randint(1, 5))
            pairs = list(itertools.permutations(running, 2))
            places = list(itertools.product(running, things))
            leads = chance.sample(pairs, chance.randint(0, min(7, len(pairs))))
            words = chance.choice([["own"], ["own", "own", "read"], ["own", "read", "write"]])
            many = chance.randint(0, len(places))
            marks = [place + (chance.choice(words),) for place in chance.sample(places, many)]
            closed = tuple(chance.sample(things, chance.randint(0, min(3, len(things)))))
            for program in running:
                self.agree((running, leads, marks), ("read", program, chance.choice(things)))
                self.agree((running, leads, marks), ("close", program, closed))
                self.agree((running, leads, marks), ("quit", program))

    def test_memories_describe_keepers(self):
        chance = random.Random(13)
        lets, refusals = 0, 0
        for _ in range(120):
            names = iter(["p" + str(number) for number in range(90)])
            things = ["x" + str(number) for number in range(chance.randint(1, 12))]
            most = chance.randint(2, 8)
            keeper, memory = SlowKeeper(), Memory.empty()
            for _ in range(40):
                form = chance.choice(["begin", "read", "read", "read", "close"] * 3 + ["quit"])
                program = chance.choice(keeper.running) if keeper.running else None
                if program is None or (form == "begin" and len(keeper.running) < most):
                    step = ("begin", next(names))
                elif form == "close" and len(keeper.ended) < 7:
                    step = ("close", program, tuple(chance.sample(things, chance.randint(0, min(3, len(things))))))
                elif form == "quit":
                    step = ("quit", program)
                else:
                    step = ("read", program, chance.choice(things))
                if keeper.take(step):
                    memory = memory.after(step)
                    lets += 1
                else:
                    error = self.error_of(memory, step, Refused)
                    self.check_ring(memory, error.ring, step)
                    refusals += 1
                self.assertEqual(parts(memory), keeper.memory())
        self.assertGreater(lets, 1000)
        self.assertGreater(refusals, 100)

    def check_ring(self, memory, ring, step):
        rings = slow_next(*parts(memory), step)
        self.assertIn(ring, rings)
        for lead in zip(ring, ring[1:]):
            self.assertIn(lead, memory.leads)
        self.assertTrue(len(ring) == 1 or ring in all_paths(memory.leads, step[1]))


class Histories(Checks):

    def test_the_empty_list(self):
        self.assertIsInstance(Memory.of([]), Memory)
        self.assertEqual(parts(Memory.of([])), ([], [], []))

    def test_one_step_after_another(self):
        steps = parse_history("begin a\nread a x\nbegin b\nclose b x y\nbegin c\nread c y\nquit a\nclose c z")
        memory = Memory.empty()
        for at, step in enumerate(steps):
            self.assertEqual(parts(Memory.of(steps[:at])), parts(memory))
            memory = memory.after(step)
        self.assertIs(Memory.of(steps) == memory, True)

    def test_the_first_error(self):
        good = parse_history("begin a\nread a x\nbegin b\nclose b x")
        for wrong, kind in [
            (("begin",), InvalidStep), ((), InvalidStep), (("begin", "a"), Taken), (("quit", "b"), NotRunning),
            (("read", "b", "x"), NotRunning), (("read", "a", "x"), Refused), (("close", "a", ("y", "x")), Refused),
        ]:
            for rest in [[], [("begin", "c")], [("begin", "a", "a")], [("quit", "z"), ()]]:
                with self.assertRaises(KeeperError) as caught:
                    Memory.of(good + [wrong] + rest)
                self.assertIs(type(caught.exception), kind)
        with self.assertRaises(Refused) as caught:
            Memory.of(good + [("close", "a", ("y", "x")), ("begin",)])
        error = caught.exception
        self.assertEqual([error.step, error.ring], [("close", "a", ("y", "x")), ["a"]])
        self.assertIs(type(error.__cause__), Ring)
        self.assertEqual(error.__cause__.programs, ["a"])
        self.assertIsNot(error.__cause__.programs, error.ring)

    def test_the_list_stays_as_it_was(self):
        steps = parse_history("begin a\nread a x\nclose a y x")
        before = list(steps)
        memory = Memory.of(steps)
        self.assertEqual(steps, before)
        steps.clear()
        self.assertEqual(parts(memory), ([], [], []))
        wrong = before + [()]
        with self.assertRaises(InvalidStep):
            Memory.of(wrong)
        self.assertEqual(wrong, before + [()])

    def test_as_much_as_callers_may_pass(self):
        programs = ["p" + str(number) for number in range(8)]
        things = ["x" + str(number) for number in range(12)]
        steps = [("begin", program) for program in programs]
        steps += [("read", programs[at // 8], things[at % 12]) for at in range(64)]
        steps += [("close", program, ()) for program in programs]
        self.assertEqual(len(steps), 80)
        self.assertEqual(parts(Memory.of(steps)), ([], [], []))
        full = Memory(
            programs, list(itertools.permutations(programs, 2)),
            [(program, thing, "own") for program in programs for thing in things],
        )
        self.refuses(full, "close p0 x0 x5", *[["p0", other] for other in programs[1:]])
        self.assertEqual(len(full.after(("close", "p0", ())).marks), 7 * 12)
        self.assertEqual(len(full.after(("close", "p0", ("x12",))).marks), 7 * 13)


class NothingShared(Checks):

    def test_the_next_memory_shares_nothing(self):
        memory = Memory(["a", "b", "c"], [("a", "b"), ("c", "a")], [("a", "x", "own"), ("c", "y", "own")])
        for line in ["begin d", "read a y", "close a z", "close a", "close c", "quit b"]:
            step = parse_step(line)
            after = memory.after(step)
            kept = parts(after)
            for one in [memory, after]:
                for part in parts(one) + (one.lines(),):
                    part.append("more")
                    part.reverse()
            self.assertEqual(parts(after), kept)
            self.assertEqual(parts(memory.after(step)), kept)

    def test_the_lists_of_an_error_are_new_each_time(self):
        memory = Memory(["a", "b", "c"], [("a", "b"), ("b", "c")], [("c", "x", "write")])
        step = ("read", "a", "x")
        first, second = self.error_of(memory, step, Refused), self.error_of(memory, step, Refused)
        found = [first.ring, first.__cause__.programs, second.ring, second.__cause__.programs]
        self.assertEqual(len({id(one) for one in found}), 4)
        first.ring.clear()
        self.assertEqual(first.__cause__.programs, ["a", "b", "c"])
        first.__cause__.programs.append("d")
        self.assertEqual(second.ring, ["a", "b", "c"])
        self.refuses(memory, "read a x", ["a", "b", "c"])

    def test_each_list_of_an_error_occurs_at_one_place_only(self):
        memory = Memory(["a"], [], [("a", "x", "write")])
        error = self.error_of(memory, ("read", "a", "x"), Refused)
        for one in [error, error.__cause__]:
            self.assertFalse([part for part in one.args if isinstance(part, list)])


if __name__ == "__main__":
    unittest.main()
