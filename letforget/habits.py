"""Habits: ways to choose which ended programs a keeper forgets."""

from letforget.errors import Refused
from letforget.keeper import Keeper
from letforget.marks import Mark
from letforget.twins import shortest_parting
from letforget.web import reached


class Habit:
    """The plain habit, which chooses no program."""

    def __call__(self, keeper):
        return self.chosen(keeper)

    def chosen(self, keeper):
        """Return the chosen lot, in order of ending."""
        return []


class Unled(Habit):
    """Chooses the ended programs to which no running program leads."""

    def chosen(self, keeper):
        """Return the chosen lot, in order of ending."""
        return _unled(keeper)


class Overwritten(Habit):
    """Chooses the ended programs whose things were all written later."""

    def chosen(self, keeper):
        """Return the chosen lot, in order of ending."""
        return _overwritten(keeper)


class Tidy(Unled, Overwritten):
    """Chooses what `Unled` or `Overwritten` chooses."""

    def chosen(self, keeper):
        """Return the chosen lot, in order of ending."""
        either = _unled(keeper) + _overwritten(keeper)
        return [program for program in keeper if program in either]


class Aged(Habit):
    """Chooses the programs that ended before each of the running ones began."""

    def chosen(self, keeper):
        """Return the chosen lot, in order of ending."""
        running = keeper.running
        lot = []
        for program in keeper.timeline():
            if program in running:
                return lot
            lot.append(program)
        return lot


class Recent(Habit):
    """Chooses all ended programs but a number of those that ended last."""

    def __init__(self, number):
        self._number = number

    def chosen(self, keeper):
        """Return the chosen lot, in order of ending."""
        ended = list(keeper)
        return ended[:max(0, len(ended) - self._number)]


class Careful(Habit):
    """Chooses of the choice of another habit what may go."""

    def __init__(self, inner):
        self._inner = inner

    def chosen(self, keeper):
        """Return the chosen lot, in order of ending."""
        lot = []
        for program in self._inner.chosen(keeper):
            if keeper.may_forget([*lot, program]):
                lot.append(program)
        return lot


def first_fault(steps, habit):
    """Return the first fault of a habit as a triple of a place, a lot and a future, None without one."""
    whole = Keeper()
    tidied = Keeper()
    for place, step in enumerate(steps):
        try:
            whole(step)
        except Refused:
            continue
        tidied(step)
        lot = habit.chosen(tidied)
        tidied = tidied.without(lot)
        before, after = whole.memory(), tidied.memory()
        if not before == after:
            return (place, lot, shortest_parting(before, after))
    return None


def _unled(keeper):
    arcs = keeper.arcs()
    ended = list(keeper)
    led = [name for program in keeper.running for name in reached(arcs, program, ended)]
    return [program for program in ended if program not in led]


def _overwritten(keeper):
    lot = []
    later = {}
    for program in reversed(list(keeper)):
        touched = keeper[program]
        if all([thing in later for thing, _ in touched]):
            lot.append(program)
        for thing, mark in touched:
            if mark == Mark("write"):
                later[thing] = True
    return lot[::-1]
