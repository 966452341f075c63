"""Random histories: the keeper beside a slow one that follows the document's words, and beside its memory."""

import random
import unittest

from letforget.errors import Needed, Refused, Ring
from letforget.keeper import Keeper
from letforget.memory import Memory
from tests.model import SlowKeeper, all_lots, parts, random_step, told, told_slowly

NAMES = ["a", "b", "ab", "c", "begin", "read", "close", "quit", "write", "none", "p9", "p10", "x", "z"]
THINGS = ["x", "y", "bx", "a", "read", "write", "none", "x9", "x10", "v", "w", "z"]


class Beside(unittest.TestCase):

    def walk(self, seed, many):
        """Yield a keeper, a slow one and the steps that both have let, behind each step."""
        chance = random.Random(seed)
        keeper, slow, steps = Keeper(), SlowKeeper(), []
        things = chance.sample(THINGS, chance.choice([2, 3, 5, 12]))
        for _ in range(many):
            step = random_step(chance, slow, NAMES, things)
            self.take(keeper, slow, step, steps)
            if chance.random() < 0.1:
                self.forget(chance, keeper, slow)
            yield keeper, slow, steps

    def take(self, keeper, slow, step, steps):
        clashes, rings = sorted(slow.clashes(step)), slow.rings(step)
        if slow.take(step):
            self.assertEqual(keeper(step), clashes)
            steps.append(step)
            return True
        with self.assertRaises(Refused) as caught:
            keeper(step)
        error = caught.exception
        self.assertEqual(error.step, step)
        self.assertIn(error.ring, rings)
        self.assertEqual(len(error.ring), min(map(len, rings)))
        self.assertIs(type(error.__cause__), Ring)
        self.assertEqual(error.__cause__.programs, error.ring)
        self.assertIsNot(error.__cause__.programs, error.ring)
        return False

    def forget(self, chance, keeper, slow):
        lot = chance.sample(slow.ended, chance.randint(0, min(3, len(slow.ended))))
        if slow.may_go(lot):
            keeper.forget(lot)
            slow.forget(lot)
        else:
            with self.assertRaises(Needed):
                keeper.forget(lot)

    def test_all_that_a_keeper_tells(self):
        refused = 0
        for seed in range(60):
            for keeper, slow, steps in self.walk(seed, 50):
                self.assertEqual(told(keeper), told_slowly(slow))
            refused += 50 - len(steps)
        self.assertGreater(refused, 200)

    def test_the_memory_takes_the_same_steps(self):
        """Points 14 and 16, without forgetting: the names then begin again behind quits alone."""
        refusals = 0
        for seed in range(60):
            chance = random.Random(seed)
            keeper, slow, memory, steps = Keeper(), SlowKeeper(), Memory.empty(), []
            for _ in range(50):
                step = random_step(chance, slow, NAMES, THINGS[:chance.choice([3, 6])])
                if self.take(keeper, slow, step, steps):
                    memory = memory.after(step)
                else:
                    with self.assertRaises(Refused):
                        memory.after(step)
                    refusals += 1
                self.assertIs(keeper.memory() == memory, True)
                self.assertEqual(parts(memory), slow.memory())
            self.assertEqual(parts(Memory.of(steps)), slow.memory())
            self.assertEqual(parts(Keeper.of(steps).memory()), slow.memory())
        self.assertGreater(refusals, 100)

    def test_lots(self):
        """Points 19, 20 and 25, and that a lot may go if and only if the memory stays."""
        may, may_not = 0, 0
        for seed in range(40):
            for at, (keeper, slow, _) in enumerate(self.walk(seed, 45)):
                if at % 5 != 4:
                    continue
                free = []
                for lot in all_lots(slow.ended):
                    backwards = lot[::-1]
                    self.assertIs(keeper.may_forget(backwards), slow.may_go(lot))
                    rest = keeper.without(backwards)
                    self.assertEqual(rest.memory() == keeper.memory(), slow.may_go(lot))
                    free += [lot] if slow.may_go(lot) else []
                    may, may_not = may + slow.may_go(lot), may_not + (not slow.may_go(lot))
                self.assertEqual(list(keeper.lots()), free)
        self.assertGreater(may, 500)
        self.assertGreater(may_not, 500)

    def test_forgetting(self):
        """What is held behind each lot, whether it may go or not, in one part and in two."""
        for seed in range(30):
            for at, (keeper, slow, _) in enumerate(self.walk(seed, 40)):
                if at % 20 != 19:
                    continue
                for lot in all_lots(slow.ended)[::3]:
                    rest, copied = slow.copy(), keeper.without(lot)
                    rest.forget(lot)
                    self.assertEqual(told(copied), told_slowly(rest))
                    for cut in range(len(lot) + 1):
                        self.assertEqual(told(keeper.without(lot[cut:]).without(lot[:cut])), told(copied))
                self.assertEqual(told(keeper), told_slowly(slow))

    def test_fewest(self):
        sizes = set()
        for seed in range(40):
            for at, (keeper, slow, _) in enumerate(self.walk(seed, 45)):
                if at % 5 != 4:
                    continue
                staying = [lot for lot in all_lots(slow.ended)
                           if slow.may_go([name for name in slow.ended if name not in lot])]
                found = keeper.fewest()
                self.assertIn(found, staying)
                self.assertEqual(len(found), len(staying[0]))
                # By the needs: what can stay alone has a candidate of each.
                for lot in all_lots(slow.ended):
                    covers = all(any(name in lot for name in names) for _, _, names in keeper.needs())
                    self.assertEqual(covers, lot in staying)
                sizes.add(len(found))
        self.assertGreater(len(sizes), 3)

    def test_there_are_never_more_needs_than_running_programs_times_things(self):
        for seed in range(20):
            for keeper, slow, _ in self.walk(seed, 50):
                things = {thing for name in slow.touched for thing in slow.touched[name]}
                self.assertLessEqual(len(keeper.needs()), len(slow.running) * len(things))


class WithALot(unittest.TestCase):

    def test_the_keeper_without_it_lets_and_refuses_the_same_steps(self):
        for seed in range(80):
            chance = random.Random(seed)
            slow = SlowKeeper()
            keeper = Keeper()
            for _ in range(35):
                step = random_step(chance, slow, NAMES[:9], THINGS[:4])
                if slow.take(step):
                    keeper(step)
            lot = chance.choice(list(keeper.lots()))
            rest = keeper.without(lot)
            for _ in range(40):
                step = random_step(chance, slow, ["n1", "n2", "n3", "n4", "n5", "n6", "n7", "n8", "n9", "n10", "n11",
                                                  "n12"], THINGS[:4], most_ended=10)
                lets = slow.take(step)
                for one in [keeper, rest]:
                    if lets:
                        one(step)
                    else:
                        self.assertRaises(Refused, one, step)
                self.assertTrue(keeper.memory() == rest.memory())


if __name__ == "__main__":
    unittest.main()
