import unittest

from letforget import errors
from letforget.errors import KeeperError

STEP = ("close", "a", ("x", "y"))

# For each class: its arguments, by the names of its fields, in their order.
CLASSES = [
    ("InvalidStep", [("step", ("begin",))]),
    ("InvalidLine", [("number", 3), ("line", "begin  a")]),
    ("InvalidMark", [("word", "red")]),
    ("InvalidMemory", []),
    ("InvalidLot", [("lot", ["a", "a"])]),
    ("InvalidLimit", [("value", 13)]),
    ("Taken", [("program", "a")]),
    ("NotRunning", [("program", "b")]),
    ("NotHeld", [("program", "No Name")]),
    ("Ring", [("programs", ["a", "b"])]),
    ("Refused", [("step", STEP), ("ring", ["a", "b"])]),
    ("Full", [("needed", 4)]),
    ("Needed", [("lot", ["b", "a"]), ("future", [("quit", "c"), ("read", "d", "x")])]),
    ("Unlike", []),
]


def made(name, fields):
    return getattr(errors, name)(*[worth for _, worth in fields])


class ErrorClasses(unittest.TestCase):

    def test_there_are_these_fourteen_and_the_base(self):
        found = [name for name, value in vars(errors).items() if isinstance(value, type)]
        self.assertEqual(sorted(found), sorted(["KeeperError"] + [name for name, _ in CLASSES]))
        self.assertEqual(len(CLASSES), 14)

    def test_each_is_defined_in_this_file(self):
        for name in ["KeeperError"] + [name for name, _ in CLASSES]:
            self.assertEqual(getattr(errors, name).__module__, "letforget.errors")

    def test_the_base_derives_from_value_error(self):
        self.assertEqual(KeeperError.__bases__, (ValueError,))

    def test_each_derives_from_the_base_directly(self):
        for name, _ in CLASSES:
            with self.subTest(name):
                self.assertEqual(getattr(errors, name).__bases__, (KeeperError,))

    def test_each_keeps_its_arguments_in_fields(self):
        for name, fields in CLASSES:
            error = made(name, fields)
            for field, worth in fields:
                with self.subTest(name, field=field):
                    self.assertEqual(getattr(error, field), worth)

    def test_each_has_these_fields_alone(self):
        for name, fields in CLASSES:
            with self.subTest(name):
                self.assertEqual(list(vars(made(name, fields))), [field for field, _ in fields])

    def test_a_list_in_a_field_occurs_nowhere_else_in_the_error(self):
        for name, fields in CLASSES:
            with self.subTest(name):
                for part in made(name, fields).args:
                    self.assertIsInstance(part, str)

    def test_each_is_caught_as_itself_as_the_base_and_as_a_value_error(self):
        for name, fields in CLASSES:
            for kind in [getattr(errors, name), KeeperError, ValueError]:
                with self.subTest(name, kind=kind.__name__):
                    with self.assertRaises(kind):
                        raise made(name, fields)

    def test_none_is_one_of_the_others(self):
        for name, fields in CLASSES:
            error = made(name, fields)
            for other, _ in CLASSES:
                with self.subTest(name, other=other):
                    self.assertEqual(isinstance(error, getattr(errors, other)), name == other)

    def test_the_base_is_none_of_the_others(self):
        for name, _ in CLASSES:
            self.assertNotIsInstance(KeeperError(), getattr(errors, name))

    def test_each_takes_these_arguments_no_more_and_no_fewer(self):
        for name, fields in CLASSES:
            with self.subTest(name):
                with self.assertRaises(TypeError):
                    made(name, fields + [("more", "a")])
                if fields:
                    with self.assertRaises(TypeError):
                        made(name, fields[:-1])

    def test_the_arguments_stay_as_they_were(self):
        lot = ["b", "a"]
        future = [("read", "d", "x")]
        errors.Needed(lot, future)
        self.assertEqual([lot, future], [["b", "a"], [("read", "d", "x")]])


if __name__ == "__main__":
    unittest.main()
