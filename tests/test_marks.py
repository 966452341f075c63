import unittest

from letforget import marks
from letforget.errors import InvalidMark, KeeperError
from letforget.marks import Mark, strongest

WORDS = ["none", "own", "read", "write"]
PAIRS = [(i, j) for i in range(4) for j in range(4)]


class Words(unittest.TestCase):

    def test_the_class_value(self):
        self.assertIsInstance(Mark.WORDS, tuple)
        self.assertEqual(Mark.WORDS, ("none", "own", "read", "write"))
        self.assertEqual(Mark("own").WORDS, ("none", "own", "read", "write"))

    def test_each_word_is_kept(self):
        for word in WORDS:
            self.assertEqual(Mark(word).word, word)

    def test_each_other_string_is_no_mark(self):
        others = [
            "", " ", "\n", "-", "None", "NONE", "Own", "Read", "Write", "WRITE", "reads", "rea", "writ",
            "written", "owned", "on", "w", " read", "read ", "read\n", "\nread", "re ad", "none own",
            "readwrite", "read write", "no", "0", "1", "3", "begin", "close", "quit", "a",
        ]
        for word in others:
            with self.subTest(word):
                with self.assertRaises(InvalidMark) as caught:
                    Mark(word)
                self.assertEqual(caught.exception.word, word)
                self.assertIsInstance(caught.exception, KeeperError)


class Signs(unittest.TestCase):

    def test_all_pairs_by_equal(self):
        for i, j in PAIRS:
            with self.subTest(WORDS[i], other=WORDS[j]):
                self.assertIs(Mark(WORDS[i]) == Mark(WORDS[j]), i == j)

    def test_all_pairs_by_less(self):
        for i, j in PAIRS:
            with self.subTest(WORDS[i], other=WORDS[j]):
                self.assertIs(Mark(WORDS[i]) < Mark(WORDS[j]), i < j)

    def test_all_pairs_by_less_or_equal(self):
        for i, j in PAIRS:
            with self.subTest(WORDS[i], other=WORDS[j]):
                self.assertIs(Mark(WORDS[i]) <= Mark(WORDS[j]), i <= j)

    def test_all_pairs_by_or(self):
        for i, j in PAIRS:
            with self.subTest(WORDS[i], other=WORDS[j]):
                joined = Mark(WORDS[i]) | Mark(WORDS[j])
                self.assertIsInstance(joined, Mark)
                self.assertEqual(joined.word, WORDS[max(i, j)])
                self.assertTrue(joined == Mark(WORDS[max(i, j)]))

    def test_the_signs_change_neither_mark(self):
        for i, j in PAIRS:
            one, other = Mark(WORDS[i]), Mark(WORDS[j])
            one == other, one < other, one <= other, one | other, strongest(one, other)
            self.assertEqual([one.word, other.word], [WORDS[i], WORDS[j]])

    def test_an_or_of_marks_compares_and_joins_like_any_mark(self):
        joined = Mark("own") | Mark("read")
        self.assertTrue(joined < Mark("write"))
        self.assertTrue(Mark("own") < joined)
        self.assertEqual((joined | Mark("write")).word, "write")

    def test_one_mark_compared_with_itself(self):
        for word in WORDS:
            mark = Mark(word)
            self.assertEqual([mark == mark, mark < mark, mark <= mark], [True, False, True])
            self.assertEqual((mark | mark).word, word)


class Strongest(unittest.TestCase):

    def test_of_none(self):
        self.assertIsInstance(strongest(), Mark)
        self.assertEqual(strongest().word, "none")

    def test_of_one(self):
        for word in WORDS:
            self.assertEqual(strongest(Mark(word)).word, word)

    def test_of_two(self):
        for i, j in PAIRS:
            self.assertEqual(strongest(Mark(WORDS[i]), Mark(WORDS[j])).word, WORDS[max(i, j)])

    def test_of_many_with_the_strongest_at_each_place(self):
        for word in WORDS:
            for place in range(6):
                words = [WORDS[max(0, WORDS.index(word) - 1)]] * 6
                words[place] = word
                with self.subTest(words):
                    self.assertEqual(strongest(*[Mark(each) for each in words]).word, word)

    def test_of_all_four(self):
        self.assertEqual(strongest(*[Mark(word) for word in WORDS]).word, "write")
        self.assertEqual(strongest(*[Mark(word) for word in reversed(WORDS)]).word, "write")

    def test_of_very_many(self):
        self.assertEqual(strongest(*([Mark("own")] * 500 + [Mark("read")] + [Mark("none")] * 500)).word, "read")

    def test_the_marks_stay_as_they_were(self):
        passed = [Mark(word) for word in WORDS]
        strongest(*passed)
        self.assertEqual([mark.word for mark in passed], WORDS)


class Place(unittest.TestCase):

    def test_everything_is_defined_in_this_file(self):
        self.assertEqual(Mark.__module__, "letforget.marks")
        self.assertEqual(strongest.__module__, "letforget.marks")
        for name in ["__init__", "__eq__", "__lt__", "__le__", "__or__"]:
            self.assertIn(name, vars(Mark))
        self.assertIs(marks.Mark, Mark)


if __name__ == "__main__":
    unittest.main()
