"""Keepers: they let or refuse steps, and know which ended programs they may forget."""

from letforget.errors import Full, InvalidLimit, InvalidLot, Needed, NotHeld
from letforget.held import Held
from letforget.marks import Mark
from letforget.steps import parse_history
from letforget.twins import shortest_parting


class Keeper:
    """A keeper of programs, with a limit to the ended ones."""

    MOST = 12

    def __init__(self, *, limit=12):
        _check_limit(limit)
        self._limit = limit
        # A value: each change puts another one in its place.
        self._held = Held([], [], {}, [])

    @classmethod
    def of(cls, steps):
        """Return a new keeper that has taken the steps."""
        keeper = cls()
        for step in steps:
            keeper(step)
        return keeper

    @classmethod
    def read(cls, text):
        """Return a new keeper that has taken the steps with this written form."""
        return cls.of(parse_history(text))

    def __call__(self, step):
        """Take a step, and return the programs that it clashes with, ascending."""
        after = _within(self._held.after(step), self._limit)
        clashes = self._held.clashes(step)
        self._held = after
        return clashes

    def __contains__(self, program):
        return program in self._held.line

    def __getitem__(self, program):
        """Return the pairs of a thing and a mark that a held program has touched, ascending."""
        if program not in self._held.line:
            raise NotHeld(program)
        words = self._held.touches[program]
        return [(thing, Mark(words[thing])) for thing in sorted(set(list(words)))]

    def __iter__(self):
        """Go through the ended programs in their order of ending."""
        return iter(self._held.ended)

    def __ior__(self, steps):
        """Take all of the steps or none."""
        held = self._held
        for step in steps:
            held = _within(held.after(step), self._limit)
        self._held = held
        return self

    @property
    def running(self):
        """The running programs, ascending."""
        return self._held.running

    @property
    def limit(self):
        """How many ended programs may be held."""
        return self._limit

    @limit.setter
    def limit(self, value):
        self.set_limit(value)

    def set_limit(self, value):
        """Change the limit, and forget the first lot that has to go for it."""
        _check_limit(value)
        self._held = _within(self._held, value)
        self._limit = value

    def arcs(self):
        """Return all arcs as pairs, ascending."""
        return sorted(set(self._held.pairs))

    def order(self):
        """Return the ended programs in their serial order."""
        return self._held.order()

    def timeline(self):
        """Return all held programs, in the order in which the running ones began and the ended ones ended."""
        return list(self._held.line)

    def memory(self):
        """Return the memory of the keeper."""
        return self._held.memory()

    def needs(self):
        """Return the needs as triples of a program, a thing and the candidates."""
        return self._held.needs()

    def may_forget(self, lot):
        """Tell whether the lot may go."""
        self._check_lot(lot)
        return self._held.may_forget(lot)

    def forget(self, lot):
        """Forget the lot, or raise `Needed` if it may not go."""
        self._check_lot(lot)
        after = self._held.without(lot)
        if not self._held.may_forget(lot):
            raise Needed(list(lot), shortest_parting(self.memory(), after.memory()))
        self._held = after

    def without(self, lot):
        """Return another keeper that holds what this one would hold after forgetting the lot."""
        self._check_lot(lot)
        other = Keeper(limit=self._limit)
        other._held = self._held.without(lot)
        return other

    def lots(self):
        """Yield the lots that may go, in their order."""
        held = self._held
        for size in range(len(held.ended) + 1):
            yield from held.free_lots(size)

    def fewest(self):
        """Return a list of as few ended programs as possible that can stay alone, in order of ending."""
        return self._held.fewest()

    def trial(self):
        """Return an object for a with statement, behind which the keeper is as it was before."""
        return Trial(self)

    def _check_lot(self, lot):
        if not self._held.is_lot(lot):
            raise InvalidLot(list(lot))


class Trial:
    """A block at whose end a keeper is again as it was at its beginning."""

    def __init__(self, keeper):
        self._keeper = keeper

    def __enter__(self):
        self._held = self._keeper._held
        self._limit = self._keeper._limit
        return self._keeper

    def __exit__(self, kind, value, trace):
        keeper = self._keeper
        keeper._held = self._held
        keeper._limit = self._limit


def _check_limit(value):
    if not 0 <= value <= Keeper.MOST:
        raise InvalidLimit(value)


def _within(held, limit):
    """Return what is held within a limit: all, or what the first lot leaves that has the right size."""
    excess = len(held.ended) - limit
    if excess <= 0:
        return held
    free = held.free_lots(excess)
    if not free:
        raise Full(len(held.fewest()))
    return held.without(free[0])
