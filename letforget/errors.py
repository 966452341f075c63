"""The errors that the program raises.

Each class hands Python a text of its own: Python would otherwise keep the
arguments a second time, and a list in a field has to occur at one place only.
"""


class KeeperError(ValueError):
    """The base class of all errors of the program."""


class InvalidStep(KeeperError):
    """A tuple has none of the four forms of a step."""

    def __init__(self, step):
        super().__init__(f"not a step: {step!r}")
        self.step = step


class InvalidLine(KeeperError):
    """A line is not the written form of a step."""

    def __init__(self, number, line):
        super().__init__(f"line {number} is not the written form of a step: {line!r}")
        self.number = number
        self.line = line


class InvalidMark(KeeperError):
    """A string is not one of the four words of marks."""

    def __init__(self, word):
        super().__init__(f"not a mark: {word!r}")
        self.word = word


class InvalidMemory(KeeperError):
    """Running programs, leads and marks do not make a memory."""

    def __init__(self):
        super().__init__("not a memory")


class InvalidLot(KeeperError):
    """A list is not a lot of ended programs."""

    def __init__(self, lot):
        super().__init__(f"not a lot: {lot!r}")
        self.lot = lot


class InvalidLimit(KeeperError):
    """An integer is too small or too great for a limit."""

    def __init__(self, value):
        super().__init__(f"not a limit: {value!r}")
        self.value = value


class Taken(KeeperError):
    """A program begins whose name is taken."""

    def __init__(self, program):
        super().__init__(f"the name is taken: {program!r}")
        self.program = program


class NotRunning(KeeperError):
    """A program that does not run was to take a step."""

    def __init__(self, program):
        super().__init__(f"not running: {program!r}")
        self.program = program


class NotHeld(KeeperError):
    """A program was asked for that is not held."""

    def __init__(self, program):
        super().__init__(f"not held: {program!r}")
        self.program = program


class Ring(KeeperError):
    """A step would close a ring of arcs; the cause of a `Refused`."""

    def __init__(self, programs):
        super().__init__(f"a ring would close: {programs!r}")
        self.programs = programs


class Refused(KeeperError):
    """A step is refused."""

    def __init__(self, step, ring):
        super().__init__(f"refused: {step!r}, because of {ring!r}")
        self.step = step
        self.ring = ring


class Full(KeeperError):
    """More ended programs would have to stay than the limit allows."""

    def __init__(self, needed):
        super().__init__(f"ended programs that would have to stay: {needed!r}")
        self.needed = needed


class Needed(KeeperError):
    """A lot may not go."""

    def __init__(self, lot, future):
        super().__init__(f"may not go: {lot!r}, because of {future!r}")
        self.lot = lot
        self.future = future


class Unlike(KeeperError):
    """Two memories have different running programs."""

    def __init__(self):
        super().__init__("the running programs differ")
