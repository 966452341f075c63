import itertools
import random
import unittest

from letforget import memory as module
from letforget.errors import InvalidMemory, KeeperError, NotRunning, Unlike
from letforget.marks import Mark
from letforget.memory import Memory
from letforget.steps import parse_history
from tests.model import WORDS, all_memories, parts

RUNNING = ["c", "a", "b"]
LEADS = [("b", "a"), ("a", "c"), ("a", "b")]
MARKS = [("b", "y", "write"), ("a", "y", "own"), ("a", "x", "read"), ("b", "x", "own")]

# What a memory may not be made of: running programs, leads, marks.
NO_MEMORIES = [
    # A program twice, or no name.
    (["a", "a"], [], []),
    (["a", "b", "a"], [], []),
    ([""], [], []),
    (["A"], [], []),
    (["1a"], [], []),
    (["a", "a b"], [], []),
    (["abcdefghi", "a"], [], []),
    (["a", "b", "c\n"], [], []),
    # A lead of one program, of a stranger, or twice.
    (["a"], [("a", "a")], []),
    (["a", "b"], [("a", "b"), ("b", "b")], []),
    (["a", "b"], [("a", "c")], []),
    (["a", "b"], [("c", "a")], []),
    (["a", "b"], [("c", "d")], []),
    (["a", "b"], [("c", "c")], []),
    ([], [("a", "b")], []),
    (["a", "b"], [("a", "")], []),
    (["a", "b"], [("a", "b"), ("a", "b")], []),
    (["a", "b"], [("a", "b"), ("b", "a"), ("a", "b")], []),
    # Names that read the same when they are joined.
    (["ab", "c"], [("a", "bc")], []),
    (["a", "bc"], [("ab", "c")], []),
    # A mark of a stranger, on no name, with another word, or twice.
    ([], [], [("a", "x", "own")]),
    (["a"], [], [("b", "x", "own")]),
    (["a"], [], [("x", "a", "own")]),
    (["ab"], [], [("a", "bx", "own")]),
    (["a"], [], [("", "x", "own")]),
    (["a"], [], [("a", "", "own")]),
    (["a"], [], [("a", "X", "read")]),
    (["a"], [], [("a", "1", "write")]),
    (["a"], [], [("a", "abcdefghi", "write")]),
    (["a"], [], [("a", "x y", "write")]),
    (["a"], [], [("a", "x", "none")]),
    (["a"], [], [("a", "x", "")]),
    (["a"], [], [("a", "x", "-")]),
    (["a"], [], [("a", "x", "Own")]),
    (["a"], [], [("a", "x", "reads")]),
    (["a"], [], [("a", "x", "ownread")]),
    (["a"], [], [("a", "x", "own"), ("a", "x", "own")]),
    (["a"], [], [("a", "x", "own"), ("a", "x", "write")]),
    (["a", "b"], [], [("a", "x", "read"), ("b", "x", "own"), ("a", "x", "own")]),
]


class Making(unittest.TestCase):

    def test_the_lists_are_kept_ascending(self):
        memory = Memory(RUNNING, LEADS, MARKS)
        self.assertEqual(memory.running, ["a", "b", "c"])
        self.assertEqual(memory.leads, [("a", "b"), ("a", "c"), ("b", "a")])
        self.assertEqual(memory.marks, [("a", "x", "read"), ("a", "y", "own"), ("b", "x", "own"), ("b", "y", "write")])

    def test_each_order_gives_the_same(self):
        wanted = parts(Memory(RUNNING, LEADS, MARKS))
        for running in itertools.permutations(RUNNING):
            for leads in itertools.permutations(LEADS):
                for marks in itertools.permutations(MARKS):
                    self.assertEqual(parts(Memory(list(running), list(leads), list(marks))), wanted)

    def test_ascending_is_the_order_of_strings(self):
        memory = Memory(
            ["p9", "p10", "p", "q"],
            [("q", "p"), ("p9", "q"), ("p9", "p10"), ("p10", "q"), ("p", "p9"), ("p", "p10")],
            [
                ("p9", "x", "own"), ("p10", "y", "own"), ("p10", "x9", "write"), ("p10", "x10", "read"),
                ("p", "z", "own"),
            ],
        )
        self.assertEqual(memory.running, ["p", "p10", "p9", "q"])
        self.assertEqual(
            memory.leads,
            [("p", "p10"), ("p", "p9"), ("p10", "q"), ("p9", "p10"), ("p9", "q"), ("q", "p")],
        )
        self.assertEqual(memory.marks, [
            ("p", "z", "own"), ("p10", "x10", "read"), ("p10", "x9", "write"), ("p10", "y", "own"), ("p9", "x", "own"),
        ])

    def test_names_that_read_the_same_when_joined(self):
        memory = Memory(
            ["a", "ab", "abc", "bc", "c"],
            [("ab", "c"), ("a", "bc")],
            [("ab", "c", "own"), ("a", "bc", "read"), ("abc", "x", "own"), ("bc", "x", "read")],
        )
        self.assertEqual(memory.leads, [("a", "bc"), ("ab", "c")])
        self.assertEqual(
            memory.marks,
            [("a", "bc", "read"), ("ab", "c", "own"), ("abc", "x", "own"), ("bc", "x", "read")],
        )
        self.assertEqual([memory.mark("a", "bc").word, memory.mark("ab", "c").word], ["read", "own"])
        self.assertEqual(memory.mark("a", "c").word, "none")

    def test_a_program_and_a_thing_with_one_name(self):
        memory = Memory(["a", "b"], [], [("a", "a", "own"), ("b", "a", "read")])
        self.assertEqual(memory.marks, [("a", "a", "own"), ("b", "a", "read")])

    def test_rings_of_leads(self):
        pairs = list(itertools.permutations(RUNNING, 2))
        self.assertEqual(Memory(RUNNING, pairs, []).leads, sorted(pairs))

    def test_what_is_no_memory(self):
        for running, leads, marks in NO_MEMORIES:
            with self.subTest(running, leads=leads, marks=marks):
                with self.assertRaises(InvalidMemory) as caught:
                    Memory(running, leads, marks)
                self.assertIsInstance(caught.exception, KeeperError)

    def test_a_wrong_member_at_each_place(self):
        wrong_running = ["", "A", "a b", "abcdefghi", "a", "b", "c"]
        wrong_leads = [("a", "a"), ("a", "d"), ("d", "a"), ("d", "e"), ("d", "d")] + LEADS
        wrong_marks = [
            ("d", "x", "own"), ("a", "", "own"), ("a", "Z", "read"), ("a", "z", "none"), ("a", "z", "owned"),
            ("a", "x", "read"), ("a", "x", "own"), ("b", "y", "read"),
        ]
        for place, wrong in itertools.product(range(4), wrong_running):
            with self.subTest(wrong, place=place):
                with self.assertRaises(InvalidMemory):
                    Memory(RUNNING[:place] + [wrong] + RUNNING[place:], LEADS, MARKS)
        for place, wrong in itertools.product(range(4), wrong_leads):
            with self.subTest(wrong, place=place):
                with self.assertRaises(InvalidMemory):
                    Memory(RUNNING, LEADS[:place] + [wrong] + LEADS[place:], MARKS)
        for place, wrong in itertools.product(range(5), wrong_marks):
            with self.subTest(wrong, place=place):
                with self.assertRaises(InvalidMemory):
                    Memory(RUNNING, LEADS, MARKS[:place] + [wrong] + MARKS[place:])

    def test_each_memory_of_two_programs(self):
        for running, leads, marks in all_memories(["a", "b"], ["x", "y"]):
            self.assertEqual(parts(Memory(running, leads[::-1], marks[::-1])), (running, leads, marks))

    def test_the_empty_memory(self):
        self.assertIsInstance(Memory.empty(), Memory)
        self.assertEqual(parts(Memory.empty()), ([], [], []))
        self.assertEqual(parts(Memory([], [], [])), ([], [], []))

    def test_more_than_the_bounds_allow(self):
        running = ["p" + str(number) for number in range(20)]
        things = ["x" + str(number) for number in range(30)]
        leads = list(itertools.permutations(running, 2))
        marks = [(program, thing, "own") for program in running for thing in things]
        memory = Memory(running, leads, marks)
        self.assertEqual(parts(memory), (sorted(running), sorted(leads), sorted(marks)))


class Marks(unittest.TestCase):

    def test_the_marks(self):
        memory = Memory(RUNNING, LEADS, MARKS)
        for program, thing in itertools.product(RUNNING, ["x", "y", "z", "a"]):
            found = [word for one, other, word in MARKS if (one, other) == (program, thing)]
            mark = memory.mark(program, thing)
            self.assertIsInstance(mark, Mark)
            self.assertEqual(mark.word, found[0] if found else "none")

    def test_a_thing_that_never_occurred(self):
        self.assertEqual(Memory(["a"], [], []).mark("a", "z0000000").word, "none")
        self.assertTrue(Memory(["a"], [], [("a", "x", "own")]).mark("a", "xx") == Mark("none"))

    def test_a_program_that_is_not_running(self):
        for memory, program in [
            (Memory.empty(), "a"), (Memory(RUNNING, LEADS, MARKS), "d"), (Memory(RUNNING, LEADS, MARKS), "x"),
            (Memory(["ab"], [], [("ab", "x", "own")]), "a"), (Memory.of([("begin", "a"), ("quit", "a")]), "a"),
            (Memory.of([("begin", "a"), ("begin", "b"), ("read", "b", "x"), ("close", "a", ("x",))]), "a"),
        ]:
            with self.assertRaises(NotRunning) as caught:
                memory.mark(program, "x")
            self.assertEqual(caught.exception.program, program)
            self.assertIsInstance(caught.exception, KeeperError)


class Equal(unittest.TestCase):

    def test_equal_memories_made_apart(self):
        one = Memory(RUNNING, LEADS, MARKS)
        other = Memory(RUNNING[::-1], LEADS[::-1], MARKS[::-1])
        self.assertIs(one == other, True)
        self.assertIs(one != other, False)
        self.assertIs(one == one, True)
        self.assertIs(Memory.empty() == Memory([], [], []), True)

    def test_each_difference_counts(self):
        one = Memory(RUNNING, LEADS, MARKS)
        others = [Memory(RUNNING + ["d"], LEADS, MARKS), Memory.empty()]
        others += [Memory(RUNNING, [], MARKS), Memory(RUNNING, LEADS, []), Memory(RUNNING, [], [])]
        others += [Memory(RUNNING, LEADS[:at] + LEADS[at + 1:], MARKS) for at in range(3)]
        others += [Memory(RUNNING, LEADS + [("c", "b")], MARKS), Memory(RUNNING, LEADS[1:] + [("c", "b")], MARKS)]
        others += [Memory(RUNNING, LEADS, MARKS[:at] + MARKS[at + 1:]) for at in range(4)]
        others += [Memory(RUNNING, LEADS, MARKS[1:] + [("b", "y", "read")])]
        others += [Memory(RUNNING, LEADS, MARKS + [("c", "x", "own")])]
        for other in others:
            with self.subTest(parts(other)):
                self.assertIs(one == other, False)
                self.assertIs(other == one, False)
                self.assertIs(one != other, True)

    def test_other_running_programs(self):
        self.assertIs(Memory(["a"], [], []) == Memory(["b"], [], []), False)
        self.assertIs(Memory(["a"], [], []) == Memory.empty(), False)
        self.assertIs(Memory(["a", "bc"], [], []) == Memory(["ab", "c"], [], []), False)

    def test_each_pair_of_memories_of_two_programs(self):
        each = list(all_memories(["a", "b"], ["x"]))
        for one, other in itertools.product(each, each):
            self.assertIs(Memory(*one) == Memory(*other), one == other)

    def test_other_ways_to_the_same_memory(self):
        one = Memory.of(parse_history("begin a\nread a x\nbegin b\nclose b x"))
        other = Memory.of(parse_history("begin c\nbegin a\nread a x\nclose c\nbegin b\nquit b\nbegin d\nclose d x"))
        self.assertIs(one == other, True)
        self.assertIs(one == Memory(["a"], [], [("a", "x", "write")]), True)


class Order(unittest.TestCase):

    def test_each_pair_of_memories_of_two_programs(self):
        each = list(all_memories(["a", "b"], ["x"]))
        for one, other in itertools.product(each, each):
            leads = set(one[1]) <= set(other[1])
            marks = all(rank(one, program) <= rank(other, program) for program in ["a", "b"])
            self.assertIs(Memory(*one) <= Memory(*other), leads and marks)

    def test_each_memory_is_less_than_or_equal_to_itself(self):
        self.assertIs(Memory(RUNNING, LEADS, MARKS) <= Memory(RUNNING[::-1], LEADS[::-1], MARKS[::-1]), True)
        self.assertIs(Memory.empty() <= Memory.empty(), True)

    def test_other_running_programs(self):
        for one, other in [
            (["a"], ["b"]), ([], ["a"]), (["a"], []), (["a"], ["a", "b"]), (["a", "b"], ["a"]),
            (["a", "bc"], ["ab", "c"]),
        ]:
            self.assertIs(Memory(one, [], []) <= Memory(other, [], []), False)

    def test_marks_on_other_things(self):
        one = Memory(["a"], [], [("a", "x", "own")])
        other = Memory(["a"], [], [("a", "y", "write")])
        both = Memory(["a"], [], [("a", "x", "own"), ("a", "y", "write")])
        self.assertEqual([one <= other, other <= one], [False, False])
        self.assertEqual([one <= both, other <= both, both <= one, both <= other], [True, True, False, False])


class Join(unittest.TestCase):

    def test_each_pair_of_memories_of_two_programs(self):
        each = list(all_memories(["a", "b"], ["x"]))
        for one, other in itertools.product(each, each):
            joined = Memory(*one) | Memory(*other)
            self.assertIsInstance(joined, Memory)
            self.assertEqual(joined.running, ["a", "b"])
            self.assertEqual(joined.leads, sorted(set(one[1] + other[1])))
            ranks = {program: max(rank(one, program), rank(other, program)) for program in ["a", "b"]}
            self.assertEqual(joined.marks, [(name, "x", WORDS[ranks[name]]) for name in ["a", "b"] if ranks[name]])

    def test_random_memories_are_below_their_join(self):
        chance = random.Random(11)
        pairs = list(itertools.permutations(RUNNING, 2))
        places = list(itertools.product(RUNNING, ["x", "y", "z"]))
        for _ in range(300):
            one, other = [
                Memory(
                    RUNNING,
                    chance.sample(pairs, chance.randint(0, 6)),
                    [place + (chance.choice(WORDS[1:]),) for place in chance.sample(places, chance.randint(0, 9))],
                )
                for _ in range(2)
            ]
            joined = one | other
            self.assertIs(one <= joined, True)
            self.assertIs(other <= joined, True)
            self.assertIs(joined == (other | one), True)
            self.assertIs(one <= other, joined == other)
            self.assertIs(joined <= one, other <= one)

    def test_of_empty_memories(self):
        self.assertEqual(parts(Memory.empty() | Memory.empty()), ([], [], []))

    def test_other_running_programs(self):
        for one, other in [
            (["a"], ["b"]), ([], ["a"]), (["a"], []), (["a"], ["a", "b"]), (["a", "b"], ["b"]),
            (["a", "bc"], ["ab", "c"]),
        ]:
            with self.assertRaises(Unlike) as caught:
                Memory(one, [], []) | Memory(other, [], [])
            self.assertIsInstance(caught.exception, KeeperError)


def rank(lists, program):
    found = [word for name, _, word in lists[2] if name == program]
    return WORDS.index(found[0]) if found else 0


class Lines(unittest.TestCase):

    def test_the_example_of_the_document(self):
        steps = parse_history("begin a\nread a x\nbegin b\nclose b x y\nbegin c\nread c y")
        self.assertEqual(Memory.of(steps).lines(), [
            "program         x        y",
            "a           write    write",
            "c               -      own",
            "a leads to c",
        ])

    def test_without_running_programs(self):
        self.assertEqual(Memory.empty().lines(), ["program "])
        self.assertEqual(Memory.of(parse_history("begin a\nread a x\nclose a y")).lines(), ["program "])

    def test_without_marks(self):
        self.assertEqual(Memory(["b", "a"], [], []).lines(), ["program ", "a       ", "b       "])
        self.assertEqual(
            Memory(["b", "a"], [("b", "a"), ("a", "b")], []).lines(),
            ["program ", "a       ", "b       ", "a leads to b", "b leads to a"],
        )

    def test_names_of_one_and_of_eight_characters(self):
        memory = Memory(
            ["p", "abcdefgh"],
            [("p", "abcdefgh")],
            [("p", "z", "own"), ("abcdefgh", "x1234567", "write"), ("p", "x1234567", "read")],
        )
        self.assertEqual(memory.lines(), [
            "program  x1234567        z",
            "abcdefgh    write        -",
            "p            read      own",
            "p leads to abcdefgh",
        ])

    def test_each_mark_and_the_order_of_lines_and_columns(self):
        memory = Memory(
            ["p9", "p10", "p"],
            [("p9", "p"), ("p10", "p9"), ("p10", "p")],
            [("p9", "y", "write"), ("p10", "x9", "read"), ("p10", "x10", "own"), ("p9", "x10", "read")],
        )
        self.assertEqual(memory.lines(), [
            "program       x10       x9        y",
            "p               -        -        -",
            "p10           own     read        -",
            "p9           read        -    write",
            "p10 leads to p",
            "p10 leads to p9",
            "p9 leads to p",
        ])

    def test_a_thing_with_a_name_of_a_program_or_of_a_word(self):
        self.assertEqual(
            Memory(["program", "a"], [], [("a", "none", "own"), ("program", "a", "own")]).lines(),
            ["program         a     none", "a               -      own", "program       own        -"],
        )


class NothingShared(unittest.TestCase):

    def test_what_is_passed_stays_as_it_was(self):
        running, leads, marks = list(RUNNING), list(LEADS), list(MARKS)
        Memory(running, leads, marks)
        self.assertEqual([running, leads, marks], [RUNNING, LEADS, MARKS])
        for wrong in NO_MEMORIES:
            lists = [list(part) for part in wrong]
            with self.assertRaises(InvalidMemory):
                Memory(*lists)
            self.assertEqual(lists, list(wrong))

    def test_lists_that_were_passed_are_changed(self):
        running, leads, marks = list(RUNNING), list(LEADS), list(MARKS)
        memory = Memory(running, leads, marks)
        before = parts(memory)
        running.append("d")
        leads.clear()
        marks.reverse()
        marks.pop()
        self.assertEqual(parts(memory), before)
        self.assertEqual(memory.lines()[-1], "b leads to a")

    def test_lists_that_were_returned_are_changed_and_asked_again(self):
        memory = Memory(RUNNING, LEADS, MARKS)
        for ask in [lambda: memory.running, lambda: memory.leads, lambda: memory.marks, memory.lines]:
            first, second = ask(), ask()
            self.assertIsInstance(first, list)
            self.assertIsNot(first, second)
            self.assertEqual(first, second)
            first.append("more")
            first.reverse()
            self.assertEqual(ask(), second)
        empty = Memory.empty()
        empty.running.append("a")
        empty.leads.append(("a", "b"))
        empty.lines().clear()
        self.assertEqual(parts(empty), ([], [], []))
        self.assertEqual(parts(Memory.empty()), ([], [], []))

    def test_a_mark_that_was_returned_is_changed_and_asked_again(self):
        memory = Memory(RUNNING, LEADS, MARKS)
        memory.mark("a", "x").word = "write"
        self.assertEqual(memory.mark("a", "x").word, "read")
        self.assertIs(memory == Memory(RUNNING, LEADS, MARKS), True)

    def test_signs_change_neither_memory(self):
        one = Memory(RUNNING, LEADS, MARKS)
        other = Memory(RUNNING, [("c", "b")], [("c", "z", "own"), ("a", "y", "write")])
        before = [parts(one), parts(other)]
        joined = one | other
        one == other, one <= other, other <= one, one.lines(), one.mark("a", "x")
        self.assertEqual([parts(one), parts(other)], before)
        kept = parts(joined)
        joined.leads.clear()
        one.after(("close", "c", ()))
        self.assertEqual([parts(one), parts(other), parts(joined)], before + [kept])


class Place(unittest.TestCase):

    def test_everything_is_defined_in_this_file_and_class(self):
        self.assertEqual(Memory.__module__, "letforget.memory")
        self.assertIs(module.Memory, Memory)
        own = vars(Memory)
        for name in ["__init__", "__eq__", "__le__", "__or__", "mark", "after", "lines"]:
            self.assertIn(name, own)
        for name in ["running", "leads", "marks"]:
            self.assertIsInstance(own[name], property)
        self.assertIsInstance(own["empty"], staticmethod)
        self.assertIsInstance(own["of"], classmethod)

    def test_the_names_of_the_arguments(self):
        memory = Memory(running=["a"], leads=[], marks=[("a", "x", "own")])
        self.assertEqual(memory.mark(program="a", thing="x").word, "own")
        self.assertEqual(parts(memory.after(step=("quit", "a"))), ([], [], []))
        self.assertEqual(Memory.of(steps=[("begin", "b")]).running, ["b"])


if __name__ == "__main__":
    unittest.main()
