import itertools
import random
import unittest

from letforget import cover
from letforget.cover import refutation, smallest_cover
from tests.model import lists_in

NAMES = ["a", "b", "c", "d", "e", "f", "g", "h"]
PAIRS = [list(pair) for pair in itertools.combinations(NAMES, 2)]
TRIPLES = [list(triple) for triple in itertools.combinations(NAMES, 3)]
EIGHT_SINGLES = [[name] for name in NAMES]

# Groups with the least number of names that cover them.
KNOWN = [
    ([], 0),
    ([["a"]], 1),
    ([["b", "a"]], 1),
    ([["a"], ["a"], ["a"]], 1),
    ([["b", "a"], ["b", "a"], ["a", "b"]], 1),
    ([["a", "b"]] * 48, 1),
    ([["a"]] * 48, 1),
    ([["a"], ["b"]], 2),
    ([["a", "b"], ["b", "c"], ["c", "d"]], 2),
    ([["a", "b"], ["c"], ["b", "c"]], 2),
    ([["a", "b"], ["b", "c"], ["a", "c"]], 2),
    ([["a", "ab"], ["b", "a"], ["ab", "b"]], 2),
    # The name that is in most groups is in no smallest cover.
    ([["m", "a"], ["m", "b"], ["m", "c"], ["a", "x"], ["b", "y"], ["c", "z"]], 3),
    (EIGHT_SINGLES, 8),
    (EIGHT_SINGLES[::-1] + PAIRS, 8),
    (EIGHT_SINGLES * 6, 8),
    (PAIRS, 7),
    (PAIRS + TRIPLES[:20], 7),
    (TRIPLES[:20] + PAIRS, 7),
    ([NAMES], 1),
    ([NAMES[:-1], NAMES[1:]] * 24, 1),
    ([NAMES] * 40 + EIGHT_SINGLES, 8),
]


def least(groups):
    """Give the least size of a cover, tried with all lists of names."""
    names = sorted({name for group in groups for name in group})
    for size in range(len(names) + 1):
        for some in itertools.combinations(names, size):
            if all(any(name in some for name in group) for group in groups):
                return size


def random_groups(seed, many):
    chance = random.Random(seed)
    for _ in range(many):
        names = chance.sample(NAMES, chance.randint(1, 8))
        longest = chance.randint(1, len(names))
        yield [chance.sample(names, chance.randint(1, longest)) for _ in range(chance.randint(0, 48))]


class Checks(unittest.TestCase):

    def check_cover(self, groups, size):
        found = smallest_cover(groups)
        self.assertIsInstance(found, list)
        self.assertEqual(len(found), size)
        self.assertEqual(found, sorted(set(found)))
        for group in groups:
            self.assertTrue(any(name in found for name in group))

    def check_refutation(self, groups, size, chosen, told):
        """Check the form of a refutation at each of its places (point 23)."""
        self.assertIsInstance(told, tuple)
        self.assertEqual(len(told), 2)
        at, branches = told
        self.assertIs(type(at), int)
        self.assertTrue(0 <= at < len(groups))
        self.assertIsInstance(branches, list)
        self.assertTrue(all(name not in chosen for name in groups[at]))
        if size == 0:
            self.assertEqual(branches, [])
            return
        for branch in branches:
            self.assertIsInstance(branch, tuple)
            self.assertEqual(len(branch), 2)
        self.assertEqual([name for name, _ in branches], groups[at])
        for name, below in branches:
            self.check_refutation(groups, size - 1, chosen + [name], below)

    def check_sizes(self, groups, size):
        names = {name for group in groups for name in group}
        for asked in range(len(names) + 2):
            told = refutation(groups, asked)
            if asked >= size:
                self.assertIsNone(told)
            else:
                self.check_refutation(groups, asked, [], told)


class SmallestCover(Checks):

    def test_known_groups(self):
        for groups, size in KNOWN:
            with self.subTest(groups):
                self.check_cover(groups, size)

    def test_no_groups(self):
        self.assertEqual(smallest_cover([]), [])

    def test_the_only_smallest_cover(self):
        self.assertEqual(smallest_cover([["c", "a"], ["b", "a"], ["a", "d"]]), ["a"])
        self.assertEqual(smallest_cover([["z", "b"], ["c", "z"], ["a", "b"], ["a", "c"], ["z"], ["a"]]), ["a", "z"])
        self.assertEqual(smallest_cover([["b"], ["a10"], ["a9"], ["a"]]), ["a", "a10", "a9", "b"])
        self.assertEqual(smallest_cover(EIGHT_SINGLES[::-1]), NAMES)
        self.assertEqual(smallest_cover([NAMES] * 47 + [["f"]]), ["f"])

    def test_random_groups(self):
        for groups in random_groups(5, 300):
            with self.subTest(groups):
                self.check_cover(groups, least(groups))

    def test_forty_eight_groups_of_each_length(self):
        chance = random.Random(6)
        for length in range(1, 9):
            all_groups = [list(some) for some in itertools.permutations(NAMES, length)][:5000]
            for _ in range(5):
                groups = [chance.choice(all_groups) for _ in range(48)]
                with self.subTest(groups):
                    self.check_cover(groups, least(groups))


class Refutation(Checks):

    def test_known_groups(self):
        for groups, size in KNOWN:
            with self.subTest(groups):
                self.check_sizes(groups, size)

    def test_no_groups(self):
        for size in range(4):
            self.assertIsNone(refutation([], size))

    def test_size_zero(self):
        self.assertEqual(refutation([["b", "a"]], 0), (0, []))

    def test_the_few_possible_refutations(self):
        self.assertIsNone(refutation([["a", "b"], ["a", "b"], ["c"]], 3))
        self.assertIn(refutation([["b", "a"], ["c"]], 1), [
            (0, [("b", (1, [])), ("a", (1, []))]),
            (1, [("c", (0, []))]),
        ])
        # With b the first and the third group are covered, with a the first and the second.
        groups = [["b", "a"], ["a", "c"], ["c", "b"]]
        self.assertIn(refutation(groups, 1), [
            (0, [("b", (1, [])), ("a", (2, []))]),
            (1, [("a", (2, [])), ("c", (0, []))]),
            (2, [("c", (0, [])), ("b", (1, []))]),
        ])

    def test_equal_groups(self):
        self.assertIn(refutation([["a"], ["a"]], 0), [(0, []), (1, [])])
        self.assertIsNone(refutation([["a"], ["a"]], 1))

    def test_a_size_far_above_the_names(self):
        self.assertIsNone(refutation(EIGHT_SINGLES, 100))
        self.assertIsNone(refutation(PAIRS, 48))

    def test_random_groups(self):
        for groups in random_groups(7, 200):
            with self.subTest(groups):
                self.check_sizes(groups, least(groups))

    def test_forty_eight_groups(self):
        chance = random.Random(8)
        for _ in range(20):
            groups = [chance.sample(some, len(some)) for some in chance.sample(PAIRS + TRIPLES, 48)]
            with self.subTest(groups):
                self.check_sizes(groups, least(groups))


class NothingShared(unittest.TestCase):

    def test_what_is_passed_stays_as_it_was(self):
        groups = [["b", "a"], ["c"], ["d", "b"]]
        smallest_cover(groups)
        for size in range(5):
            refutation(groups, size)
        self.assertEqual(groups, [["b", "a"], ["c"], ["d", "b"]])

    def test_each_list_occurs_at_one_place_only(self):
        group = ["b", "a"]
        groups = [group, group, ["c"], ["d"], ["e", "f"]]
        for size in range(4):
            told = refutation(groups, size)
            found = [id(one) for one in lists_in(told)]
            self.assertEqual(len(set(found)), len(found))
            self.assertEqual(set(found) & {id(one) for one in lists_in(groups)}, set())

    def test_a_list_that_was_returned_is_changed_and_asked_again(self):
        groups = [["b", "a"], ["c"], ["d"], ["e"]]
        first, second = smallest_cover(groups), smallest_cover(groups)
        first.append("more")
        self.assertEqual(smallest_cover(groups), second)
        for size in range(3):
            first, second = refutation(groups, size), refutation(groups, size)
            self.assertEqual(first, second)
            for one in lists_in(first):
                one.append("more")
            self.assertEqual(refutation(groups, size), second)
        self.assertEqual(groups, [["b", "a"], ["c"], ["d"], ["e"]])
        empty = smallest_cover([])
        empty.append("more")
        self.assertEqual(smallest_cover([]), [])

    def test_a_group_changed_later(self):
        groups = [["a"], ["b"]]
        found, told = smallest_cover(groups), refutation(groups, 1)
        kept = repr([found, told])
        groups[0].append("b")
        groups.append(["c"])
        self.assertEqual(repr([found, told]), kept)


class Place(unittest.TestCase):

    def test_everything_is_defined_in_this_file(self):
        for function in [smallest_cover, refutation]:
            self.assertEqual(function.__module__, "letforget.cover")
            self.assertIs(getattr(cover, function.__name__), function)

    def test_the_names_of_the_arguments(self):
        self.assertEqual(smallest_cover(groups=[["a"]]), ["a"])
        self.assertEqual(refutation(groups=[["a"]], size=0), (0, []))


if __name__ == "__main__":
    unittest.main()
