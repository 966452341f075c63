import ast
import pathlib
import unittest

import letforget

FOLDER = pathlib.Path(letforget.__file__).parent
# Nothing here gives a clock, random numbers, files or a network.
HARMLESS = ["heapq", "math", "itertools", "collections"]
BARRED = ["open", "input", "print", "eval", "exec", "compile", "__import__", "id", "hash"]


def sources():
    return [(path.name, path.read_text(encoding="utf-8")) for path in sorted(FOLDER.rglob("*.py"))]


class Package(unittest.TestCase):

    def test_there_are_files(self):
        names = [name for name, _ in sources()]
        for name in ["__init__.py", "cover.py", "errors.py", "habits.py", "keeper.py", "marks.py", "memory.py",
                     "steps.py", "twins.py", "web.py"]:
            self.assertIn(name, names)

    def test_only_the_package_itself_is_imported(self):
        for name, source in sources():
            for node in ast.walk(ast.parse(source)):
                with self.subTest(name):
                    self.assertNotIsInstance(node, ast.Import)
                    if isinstance(node, ast.ImportFrom):
                        self.assertEqual(node.level, 0)
                        self.assertIn(node.module.partition(".")[0], ["letforget"] + HARMLESS)

    def test_nothing_opens_files_or_asks_outside(self):
        for name, source in sources():
            used = [node.id for node in ast.walk(ast.parse(source)) if isinstance(node, ast.Name)]
            for word in BARRED:
                with self.subTest(name, word=word):
                    self.assertNotIn(word, used)

    def test_characters_and_sizes(self):
        for name, source in sources():
            with self.subTest(name):
                self.assertTrue(all(sign == "\n" or " " <= sign <= "~" for sign in source))
                self.assertLess(len(source.splitlines()), 400)
                self.assertLessEqual(max(len(line) for line in source.splitlines()), 120)
                for node in ast.walk(ast.parse(source)):
                    if isinstance(node, ast.FunctionDef):
                        self.assertLessEqual(node.end_lineno - node.lineno + 1, 40)


if __name__ == "__main__":
    unittest.main()
