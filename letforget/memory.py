"""Memories: what matters about ended programs, told of the running ones alone."""

from letforget.errors import InvalidMemory, InvalidStep, NotRunning, Refused, Ring, Taken, Unlike
from letforget.marks import Mark, strongest
from letforget.steps import valid_name, valid_step
from letforget.web import shortest_path

WIDTH = 8
KEPT_WORDS = ("own", "read", "write")


class Memory:
    """Running programs, their leads and their marks: a value, which never changes."""

    def __init__(self, running, leads, marks):
        if not (_valid_running(running) and _valid_leads(leads, running) and _valid_marks(marks, running)):
            raise InvalidMemory()
        self._running = sorted(set(running))
        self._leads = sorted(set(leads))
        # By pairs of a program and a thing, without the marks `none`.
        self._words = {(program, thing): word for program, thing, word in marks}

    @staticmethod
    def empty():
        """Return the memory without running programs."""
        return Memory([], [], [])

    @classmethod
    def of(cls, steps):
        """Return the memory that the steps lead to from the empty one."""
        memory = cls.empty()
        for step in steps:
            memory = memory.after(step)
        return memory

    @property
    def running(self):
        """The running programs, ascending."""
        return list(self._running)

    @property
    def leads(self):
        """The leads as pairs, ascending."""
        return list(self._leads)

    @property
    def marks(self):
        """The marks other than `none` as triples, ascending."""
        return sorted(set([(program, thing, word) for (program, thing), word in self._words.items()]))

    def mark(self, program, thing):
        """Return the mark of a running program on a thing."""
        if program not in self._running:
            raise NotRunning(program)
        return Mark(self._word(program, thing))

    def after(self, step):
        """Return the next memory, or raise the first error that applies."""
        if not valid_step(step):
            raise InvalidStep(step)
        form, program = step[0], step[1]
        if form == "begin":
            return self._after_begin(program)
        if program not in self._running:
            raise NotRunning(program)
        if form == "read":
            return self._after_read(step)
        if form == "close":
            return self._after_close(step)
        return self._after_quit(program)

    def __eq__(self, other):
        if not isinstance(other, Memory):
            return NotImplemented
        return (self._running == other._running and self._leads == other._leads
                and self._words == other._words)

    def __le__(self, other):
        if not isinstance(other, Memory):
            return NotImplemented
        if self._running != other._running:
            return False
        if not all([lead in other._leads for lead in self._leads]):
            return False
        return all([self.mark(program, thing) <= other.mark(program, thing) for program, thing in self._words])

    def __or__(self, other):
        if not isinstance(other, Memory):
            return NotImplemented
        if self._running != other._running:
            raise Unlike()
        places = sorted(set(list(self._words) + list(other._words)))
        words = {
            (program, thing): strongest(self.mark(program, thing), other.mark(program, thing)).word
            for program, thing in places
        }
        return _memory(self._running, self._leads + other._leads, words)

    def lines(self):
        """Return the printed table."""
        things = sorted(set([thing for _, thing in self._words]))
        rows = [
            _row(program, [_shown(self._word(program, thing)) for thing in things])
            for program in self._running
        ]
        return [_row("program", things)] + rows + [f"{one} leads to {other}" for one, other in self._leads]

    def _word(self, program, thing):
        return self._words.get((program, thing), "none")

    def _after_begin(self, program):
        if program in self._running:
            raise Taken(program)
        return _memory(self._running + [program], self._leads, self._words)

    def _after_read(self, step):
        _, program, thing = step
        writers = [name for name in self._running if self._word(name, thing) == "write"]
        self._check(step, writers)
        words = self._copied_words()
        words.setdefault((program, thing), "own")
        # A reader with the mark `write` was refused, so it is not among the writers.
        return _memory(self._running, self._leads + [(name, program) for name in writers], words)

    def _after_close(self, step):
        _, program, things = step
        self._check(step, [name for name in self._running if self._bars(name, program, things)])
        followers = [name for name in self._running if self._follows(name, program, things)]
        onward = [other for one, other in self._leads if one == program]
        leads = [(follower, name) for follower in followers for name in onward if follower != name]
        passed = self._passed(program, things)
        words = self._copied_words()
        for follower in followers:
            for thing in passed:
                own = Mark(self._word(follower, thing))
                words[(follower, thing)] = strongest(own, Mark(passed[thing])).word
        return _memory(self._running, self._leads + leads, words)._after_quit(program)

    def _after_quit(self, program):
        running = [name for name in self._running if name != program]
        leads = [lead for lead in self._leads if program not in lead]
        words = {place: self._words[place] for place in self._words if place[0] != program}
        return _memory(running, leads, words)

    def _check(self, step, goals):
        """Raise the refusal of a step whose program reaches one of the goals."""
        ring = shortest_path(self._leads, step[1], goals)
        if ring is not None:
            raise Refused(step, ring) from Ring(list(ring))

    def _bars(self, name, program, things):
        """Tell whether a close of the things is refused if its program reaches the name."""
        words = [self._word(name, thing) for thing in things]
        return "read" in words or "write" in words or ("own" in words and name != program)

    def _follows(self, name, program, things):
        """Tell whether a close of the things by the program passes its marks on to the name."""
        if name == program:
            return False
        return (name, program) in self._leads or any([(name, thing) in self._words for thing in things])

    def _passed(self, program, things):
        """Return the marks that a close passes on, as words by things."""
        passed = {}
        for (name, thing), word in self._words.items():
            if name == program:
                passed[thing] = "read" if word == "own" else word
        for thing in things:
            passed[thing] = "write"
        return passed

    def _copied_words(self):
        return {place: self._words[place] for place in self._words}


def _memory(running, leads, words):
    """Return a memory, with each lead once even if it is given twice."""
    marks = [(program, thing, word) for (program, thing), word in words.items()]
    return Memory(running, sorted(set(leads)), marks)


def _valid_running(running):
    return all([valid_name(name) for name in running]) and len(set(running)) == len(running)


def _valid_leads(leads, running):
    known = all([one in running and other in running and one != other for one, other in leads])
    return known and len(set(leads)) == len(leads)


def _valid_marks(marks, running):
    for program, thing, word in marks:
        if program not in running or not valid_name(thing) or word not in KEPT_WORDS:
            return False
    return len(set([(program, thing) for program, thing, _ in marks])) == len(marks)


def _row(first, cells):
    return first.ljust(WIDTH) + "".join([" " + cell.rjust(WIDTH) for cell in cells])


def _shown(word):
    return "-" if word == "none" else word
