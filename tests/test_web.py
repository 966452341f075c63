import itertools
import random
import unittest

from letforget import web
from letforget.web import bypassed, reached, shortest_path
from tests.model import all_paths

NAMES = ["a", "b", "c", "d"]
ALL_ARCS = list(itertools.permutations(NAMES, 2))
CHAIN = ["n" + str(number) for number in range(10, 26)]
# From each name to the next one and to each earlier one.
CHAIN_ARCS = list(zip(CHAIN, CHAIN[1:])) + [
    (CHAIN[later], CHAIN[earlier]) for later in range(16) for earlier in range(later)
]
FULL_ARCS = list(itertools.permutations(CHAIN, 2))


def subsets(names):
    return [list(some) for size in range(len(names) + 1) for some in itertools.combinations(names, size)]


def random_webs(seed, many, most=8):
    """Give arcs in any order over names that do not sort as they were made."""
    chance = random.Random(seed)
    for _ in range(many):
        names = chance.sample(["a", "b", "ab", "ba", "z", "z9", "z10", "m", "aa"], chance.randint(2, most))
        arcs = [arc for arc in itertools.permutations(names, 2) if chance.random() < chance.choice([0.1, 0.25, 0.4])]
        chance.shuffle(arcs)
        yield chance, names, arcs


def slow_reached(arcs, start, through):
    return sorted({path[-1] for path in all_paths(arcs, start, through)})


def slow_bypassed(arcs, gone):
    names = {name for arc in arcs for name in arc} - set(gone)
    return [(one, other) for one in sorted(names) for other in slow_reached(arcs, one, gone) if other in names]


class ShortestPath(unittest.TestCase):

    def agree(self, arcs, start, goals):
        path = shortest_path(arcs, start, goals)
        if start in goals:
            self.assertEqual(path, [start])
            return
        lengths = [len(other) for other in all_paths(arcs, start) if other[-1] in goals]
        if not lengths:
            self.assertIsNone(path)
            return
        self.assertIsInstance(path, list)
        self.assertEqual(len(path), min(lengths))
        self.assertEqual(len(set(path)), len(path))
        self.assertEqual(path[0], start)
        self.assertIn(path[-1], goals)
        for arc in zip(path, path[1:]):
            self.assertIn(arc, arcs)

    def test_the_start_is_a_goal(self):
        arcs = [("a", "b"), ("b", "a")]
        self.assertEqual(shortest_path(arcs, "a", ["a"]), ["a"])
        self.assertEqual(shortest_path(arcs, "a", ["b", "a"]), ["a"])
        self.assertEqual(shortest_path(arcs, "z", ["z"]), ["z"])
        self.assertEqual(shortest_path([], "a", ["b", "a", "c"]), ["a"])

    def test_no_path(self):
        self.assertIsNone(shortest_path([], "a", ["b"]))
        self.assertIsNone(shortest_path([], "a", []))
        self.assertIsNone(shortest_path([("a", "b")], "a", []))
        self.assertIsNone(shortest_path([("b", "a")], "a", ["b"]))
        self.assertIsNone(shortest_path([("a", "b"), ("c", "d")], "a", ["d", "c"]))
        self.assertIsNone(shortest_path([("a", "b"), ("b", "a")], "a", ["z"]))
        self.assertIsNone(shortest_path([("a", "b"), ("b", "a")], "z", ["a", "b"]))

    def test_one_path(self):
        self.assertEqual(shortest_path([("a", "b")], "a", ["b"]), ["a", "b"])
        self.assertEqual(shortest_path([("b", "c"), ("a", "b")], "a", ["c"]), ["a", "b", "c"])
        self.assertEqual(shortest_path([("b", "c"), ("a", "b")], "a", ["z", "c"]), ["a", "b", "c"])

    def test_the_nearest_goal(self):
        arcs = [("a", "b"), ("b", "c"), ("c", "d"), ("a", "e")]
        self.assertEqual(shortest_path(arcs, "a", ["d", "e"]), ["a", "e"])
        self.assertEqual(shortest_path(arcs, "a", ["d", "c"]), ["a", "b", "c"])

    def test_a_short_way_beside_a_long_one_that_comes_first(self):
        arcs = [("a", "b"), ("b", "c"), ("c", "d"), ("a", "z"), ("z", "d")]
        self.assertEqual(shortest_path(arcs, "a", ["d"]), ["a", "z", "d"])
        self.assertEqual(shortest_path(list(reversed(arcs)), "a", ["d"]), ["a", "z", "d"])

    def test_rings(self):
        ring = [("a", "b"), ("b", "c"), ("c", "d"), ("d", "a")]
        self.assertEqual(shortest_path(ring, "b", ["a"]), ["b", "c", "d", "a"])
        self.assertEqual(shortest_path(ring + [("c", "e")], "d", ["e"]), ["d", "a", "b", "c", "e"])
        self.assertIsNone(shortest_path(ring, "a", ["e"]))
        self.assertIsNone(shortest_path(ring + [("e", "a")], "a", ["e"]))

    def test_the_chain_with_all_arcs_back(self):
        self.assertEqual(shortest_path(CHAIN_ARCS, "n10", ["n25"]), CHAIN)
        self.assertEqual(shortest_path(CHAIN_ARCS, "n25", ["n10"]), ["n25", "n10"])
        self.assertIsNone(shortest_path(CHAIN_ARCS, "n10", ["n26"]))
        for start, goal in itertools.product(range(16), range(16)):
            path = shortest_path(CHAIN_ARCS, CHAIN[start], [CHAIN[goal]])
            wanted = CHAIN[start:goal + 1] if start <= goal else [CHAIN[start], CHAIN[goal]]
            self.assertEqual(path, wanted)

    def test_all_arcs_over_sixteen_names(self):
        self.assertEqual(shortest_path(FULL_ARCS, "n20", ["n11"]), ["n20", "n11"])
        self.assertIsNone(shortest_path(FULL_ARCS, "n20", ["x", "y"]))

    def test_each_web_over_three_names(self):
        for arcs in subsets(list(itertools.permutations(["a", "b", "c"], 2))):
            for goals in subsets(["a", "b", "c", "e"]):
                self.agree(arcs, "a", goals)

    def test_random_webs(self):
        for chance, names, arcs in random_webs(1, 400, most=7):
            for start in names + ["q"]:
                self.agree(arcs, start, chance.sample(names + ["q", "r"], chance.randint(0, 3)))


class Reached(unittest.TestCase):

    def test_no_arcs_and_strangers(self):
        self.assertEqual(reached([], "a", []), [])
        self.assertEqual(reached([], "a", ["a", "b"]), [])
        self.assertEqual(reached([("a", "b")], "z", ["a", "b"]), [])
        self.assertEqual(reached([("a", "b")], "a", ["z"]), ["b"])

    def test_through(self):
        arcs = [("c", "d"), ("b", "c"), ("a", "b"), ("a", "x")]
        self.assertEqual(reached(arcs, "a", []), ["b", "x"])
        self.assertEqual(reached(arcs, "a", ["b"]), ["b", "c", "x"])
        self.assertEqual(reached(arcs, "a", ["c"]), ["b", "x"])
        self.assertEqual(reached(arcs, "a", ["c", "b"]), ["b", "c", "d", "x"])
        self.assertEqual(reached(arcs, "a", ["d", "q", "x", "b", "c"]), ["b", "c", "d", "x"])

    def test_the_start_is_never_reached(self):
        ring = [("a", "b"), ("b", "c"), ("c", "a")]
        for through in subsets(["a", "b", "c"]):
            found = reached(ring, "a", through)
            self.assertEqual(found, ["b", "c"] if "b" in through else ["b"])

    def test_the_start_need_not_be_in_through(self):
        self.assertEqual(reached([("a", "b")], "a", ["b"]), ["b"])
        self.assertEqual(reached([("a", "b"), ("b", "a"), ("b", "c")], "a", ["a"]), ["b"])

    def test_ascending_without_repetition(self):
        arcs = [("m", "z"), ("m", "b"), ("m", "a10"), ("m", "a9"), ("m", "a"), ("z", "b"), ("b", "z")]
        self.assertEqual(reached(arcs, "m", ["z", "b"]), ["a", "a10", "a9", "b", "z"])

    def test_the_chain_with_all_arcs_back(self):
        self.assertEqual(reached(CHAIN_ARCS, "n10", CHAIN), CHAIN[1:])
        self.assertEqual(reached(CHAIN_ARCS, "n10", CHAIN[:-2]), CHAIN[1:-1])
        self.assertEqual(reached(CHAIN_ARCS, "n25", []), CHAIN[:-1])
        self.assertEqual(reached(CHAIN_ARCS, "n13", ["n10", "n12"]), ["n10", "n11", "n12", "n14"])
        self.assertEqual(reached(FULL_ARCS, "n12", CHAIN), [name for name in CHAIN if name != "n12"])

    def test_each_web_over_three_names(self):
        for arcs in subsets(list(itertools.permutations(["a", "b", "c"], 2))):
            for through in subsets(["a", "b", "c", "e"]):
                self.assertEqual(reached(arcs, "a", through), slow_reached(arcs, "a", through))

    def test_random_webs_in_any_order(self):
        for chance, names, arcs in random_webs(2, 400, most=7):
            through = chance.sample(names + ["q"], chance.randint(0, len(names)))
            for start in names + ["q"]:
                found = reached(arcs, start, through)
                self.assertEqual(found, slow_reached(arcs, start, through))
                self.assertEqual(found, reached(arcs[::-1], start, through[::-1]))


class Bypassed(unittest.TestCase):

    def test_the_example_of_the_document(self):
        found = bypassed([("a", "b"), ("b", "c"), ("c", "d")], ["b"])
        self.assertEqual(found, [("a", "c"), ("c", "d")])

    def test_nothing_gone(self):
        arcs = [("c", "d"), ("b", "c"), ("a", "b"), ("a", "a9"), ("a", "a10")]
        self.assertEqual(bypassed(arcs, []), [("a", "a10"), ("a", "a9"), ("a", "b"), ("b", "c"), ("c", "d")])
        self.assertEqual(bypassed(arcs, ["z"]), bypassed(arcs, []))
        self.assertEqual(bypassed([], []), [])

    def test_all_or_all_but_one_gone(self):
        arcs = [("a", "b"), ("b", "c"), ("c", "a")]
        self.assertEqual(bypassed(arcs, ["c", "a", "b"]), [])
        self.assertEqual(bypassed(arcs, ["c", "a"]), [])
        self.assertEqual(bypassed(arcs, ["c"]), [("a", "b"), ("b", "a")])
        self.assertEqual(bypassed([], ["a"]), [])

    def test_gone_names_at_the_ends(self):
        arcs = [("a", "b"), ("b", "c"), ("c", "d")]
        self.assertEqual(bypassed(arcs, ["a", "d"]), [("b", "c")])
        self.assertEqual(bypassed(arcs, ["c", "b"]), [("a", "d")])
        self.assertEqual(bypassed(arcs, ["a", "c"]), [("b", "d")])

    def test_a_pair_with_an_arc_and_with_a_path_is_given_once(self):
        self.assertEqual(bypassed([("a", "g"), ("g", "b"), ("a", "b")], ["g"]), [("a", "b")])
        self.assertEqual(bypassed([("a", "g"), ("g", "b"), ("a", "h"), ("h", "b")], ["h", "g"]), [("a", "b")])

    def test_no_pair_of_one_name(self):
        self.assertEqual(bypassed([("a", "g"), ("g", "a")], ["g"]), [])
        self.assertEqual(bypassed([("a", "g"), ("g", "h"), ("h", "g"), ("h", "a")], ["g", "h"]), [])

    def test_a_name_that_is_not_gone_stops_a_path(self):
        self.assertEqual(
            bypassed([("a", "g"), ("g", "m"), ("m", "h"), ("h", "b")], ["g", "h"]),
            [("a", "m"), ("m", "b")],
        )

    def test_the_chain_with_all_arcs_back(self):
        for gone in [CHAIN[1:-1], CHAIN[-2:0:-1]]:
            self.assertEqual(bypassed(CHAIN_ARCS, gone), [("n10", "n25"), ("n25", "n10")])
        kept = [CHAIN[0], CHAIN[5], CHAIN[15]]
        gone = [name for name in CHAIN if name not in kept]
        self.assertEqual(
            bypassed(CHAIN_ARCS, gone),
            [("n10", "n15"), ("n15", "n10"), ("n15", "n25"), ("n25", "n10"), ("n25", "n15")],
        )
        self.assertEqual(bypassed(FULL_ARCS, []), sorted(FULL_ARCS))
        self.assertEqual(bypassed(FULL_ARCS, CHAIN[2:]), [("n10", "n11"), ("n11", "n10")])

    def test_each_web_over_three_names(self):
        for arcs in subsets(list(itertools.permutations(["a", "b", "c"], 2))):
            for gone in subsets(["a", "b", "c", "e"]):
                self.assertEqual(bypassed(arcs, gone), slow_bypassed(arcs, gone))

    def test_random_webs_in_any_order(self):
        for chance, names, arcs in random_webs(3, 400, most=7):
            gone = chance.sample(names + ["q"], chance.randint(0, len(names)))
            found = bypassed(arcs, gone)
            self.assertEqual(found, slow_bypassed(arcs, gone))
            self.assertEqual(found, bypassed(arcs[::-1], gone[::-1]))

    def test_one_after_another_is_the_same_as_all_at_once(self):
        for chance, names, arcs in random_webs(4, 200):
            gone = chance.sample(names, chance.randint(0, len(names)))
            left = arcs
            for name in gone:
                left = bypassed(left, [name])
            self.assertEqual(bypassed(left, []), bypassed(arcs, gone))


class NothingShared(unittest.TestCase):

    def test_what_is_passed_stays_as_it_was(self):
        arcs = [("c", "a"), ("a", "b"), ("b", "c"), ("a", "d")]
        some = ["d", "b"]
        shortest_path(arcs, "c", some)
        reached(arcs, "a", some)
        bypassed(arcs, some)
        self.assertEqual(arcs, [("c", "a"), ("a", "b"), ("b", "c"), ("a", "d")])
        self.assertEqual(some, ["d", "b"])

    def test_a_list_that_was_returned_is_changed_and_asked_again(self):
        arcs = [("c", "a"), ("a", "b"), ("b", "c"), ("a", "d")]
        goals, some = ["a"], ["b"]
        for ask in [
            lambda: shortest_path(arcs, "c", ["d"]),
            lambda: shortest_path(arcs, "a", goals),
            lambda: reached(arcs, "a", some),
            lambda: reached(arcs, "z", some),
            lambda: bypassed(arcs, some),
            lambda: bypassed(arcs, []),
            lambda: bypassed([], some),
        ]:
            first, second = ask(), ask()
            self.assertIsNot(first, second)
            self.assertEqual(first, second)
            first.append("more")
            first.reverse()
            self.assertEqual(ask(), second)
        self.assertEqual([goals, some], [["a"], ["b"]])

    def test_none_of_the_passed_lists_is_returned(self):
        goals, through = ["a"], ["b"]
        arcs = [("a", "b")]
        self.assertIsNot(shortest_path(arcs, "a", goals), goals)
        self.assertIsNot(reached(arcs, "a", through), through)
        self.assertIsNot(bypassed(arcs, []), arcs)


class Place(unittest.TestCase):

    def test_everything_is_defined_in_this_file(self):
        for function in [shortest_path, reached, bypassed]:
            self.assertEqual(function.__module__, "letforget.web")
            self.assertIs(getattr(web, function.__name__), function)

    def test_the_names_of_the_arguments(self):
        arcs = [("a", "b")]
        self.assertEqual(shortest_path(arcs=arcs, start="a", goals=["b"]), ["a", "b"])
        self.assertEqual(reached(arcs=arcs, start="a", through=[]), ["b"])
        self.assertEqual(bypassed(arcs=arcs, gone=[]), [("a", "b")])


if __name__ == "__main__":
    unittest.main()
