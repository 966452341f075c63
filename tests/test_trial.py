import unittest

from letforget.errors import Full, KeeperError, Refused
from letforget.keeper import Keeper
from letforget.steps import parse_history
from tests.model import told

HISTORY = "begin a\nread a x\nbegin b\nclose b x y\nbegin c\nread c y\nbegin d\nclose d z"


class Trial(unittest.TestCase):

    def setUp(self):
        self.keeper = Keeper.read(HISTORY)
        self.before = told(self.keeper)

    def change(self, keeper):
        """Change all that can be changed."""
        keeper |= parse_history("begin e\nread e z\nclose c w\nquit a")
        keeper(("begin", "a"))
        keeper.forget(["d", "c"])
        keeper.limit = 3
        keeper(("read", "e", "y"))
        self.assertEqual([keeper.running, list(keeper), keeper.limit], [["a", "e"], ["b"], 3])

    def test_it_gives_the_keeper_itself(self):
        with self.keeper.trial() as tried:
            self.assertIs(tried, self.keeper)
            self.assertEqual(told(tried), self.before)

    def test_without_an_exception(self):
        with self.keeper.trial() as tried:
            self.change(tried)
        self.assertEqual(told(self.keeper), self.before)

    def test_without_a_name(self):
        with self.keeper.trial():
            self.change(self.keeper)
        self.assertEqual(told(self.keeper), self.before)

    def test_without_a_change(self):
        with self.keeper.trial():
            pass
        self.assertEqual(told(self.keeper), self.before)

    def test_exceptions_are_passed_on(self):
        class Other(Exception):
            pass

        for error in [Other("why"), ValueError(), KeyError("a"), KeeperError(), StopIteration(), KeyboardInterrupt(),
                      GeneratorExit(), SystemExit(0)]:
            with self.assertRaises(type(error)) as caught:
                with self.keeper.trial() as tried:
                    self.change(tried)
                    raise error
            self.assertIs(caught.exception, error)
            self.assertEqual(told(self.keeper), self.before)

    def test_an_error_of_the_keeper_is_passed_on(self):
        with self.assertRaises(Refused) as caught:
            with self.keeper.trial() as tried:
                tried(("begin", "e"))
                tried(("close", "a", ("y",)))
        self.assertEqual(caught.exception.ring[:1], ["a"])
        self.assertEqual(told(self.keeper), self.before)
        with self.assertRaises(Full):
            with self.keeper.trial() as tried:
                tried.limit = 2
                tried.limit = 0
        self.assertEqual(told(self.keeper), self.before)

    def test_the_limit(self):
        for value in [1, 2, 5, 12]:
            with self.keeper.trial() as tried:
                tried.limit = value
                self.assertEqual(tried.limit, value)
            self.assertEqual(told(self.keeper), self.before)
        self.keeper.limit = 4
        with self.keeper.trial() as tried:
            tried.set_limit(9)
        self.assertEqual(self.keeper.limit, 4)

    def test_left_by_return_and_by_break(self):
        def left():
            with self.keeper.trial() as tried:
                self.change(tried)
                return len(tried.running)

        self.assertEqual(left(), 2)
        self.assertEqual(told(self.keeper), self.before)
        for _ in range(2):
            with self.keeper.trial() as tried:
                self.change(tried)
                break
        self.assertEqual(told(self.keeper), self.before)

    def test_the_beginning_of_the_block_counts(self):
        trial = self.keeper.trial()
        self.keeper(("begin", "e"))
        self.keeper.limit = 6
        begun = told(self.keeper)
        with trial as tried:
            tried(("quit", "e"))
            tried.limit = 12
        self.assertEqual(told(self.keeper), begun)

    def test_one_inside_another_one(self):
        with self.keeper.trial() as tried:
            tried(("begin", "e"))
            tried.limit = 8
            inside = told(tried)
            with tried.trial() as again:
                self.assertIs(again, self.keeper)
                again(("quit", "e"))
                again.limit = 3
            self.assertEqual(told(tried), inside)
        self.assertEqual(told(self.keeper), self.before)

    def test_one_behind_another_one(self):
        for _ in range(3):
            with self.keeper.trial() as tried:
                self.change(tried)
            self.assertEqual(told(self.keeper), self.before)
        self.keeper(("read", "c", "z"))
        after = told(self.keeper)
        with self.keeper.trial() as tried:
            tried(("quit", "c"))
        self.assertEqual(told(self.keeper), after)

    def test_a_copy_that_was_made_in_the_block(self):
        with self.keeper.trial() as tried:
            self.change(tried)
            copied = tried.without([])
            kept = told(copied)
        self.assertEqual(told(copied), kept)
        copied(("quit", "a"))
        self.assertEqual(told(self.keeper), self.before)

    def test_the_keeper_goes_on_as_before(self):
        other = Keeper.read(HISTORY)
        with self.keeper.trial() as tried:
            self.change(tried)
        steps = parse_history("begin e\nread e z\nread e y\nclose c w\nread a v\nclose a u\nclose e")
        for step in steps:
            self.assertEqual(self.keeper(step), other(step))
        self.assertEqual(told(self.keeper), told(other))


if __name__ == "__main__":
    unittest.main()
