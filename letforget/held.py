"""The programs that a keeper holds, with their touches and the arcs between them."""

from itertools import combinations

from letforget.cover import smallest_cover
from letforget.errors import InvalidStep, NotRunning, Refused, Ring, Taken
from letforget.memory import Memory
from letforget.steps import valid_step
from letforget.web import bypassed, reached, shortest_path


class Held:
    """The held programs: a value, which never changes.

    The list `line` has all of them, a running one at the place of its begin and
    an ended one at the place of its end; `ended` has the ended ones in the same
    order. `touches` has for each of them a dict of the words `read` and `write`
    by things, and `pairs` has the arcs.
    """

    def __init__(self, line, ended, touches, pairs):
        self.line = line
        self.ended = ended
        self.touches = touches
        self.pairs = pairs

    @property
    def running(self):
        """The running programs, ascending."""
        return sorted(set([program for program in self.line if program not in self.ended]))

    def clashes(self, step):
        """Return the programs that a step clashes with, ascending."""
        others = sorted(set([program for program in self.line if program != step[1]]))
        if step[0] == "read":
            return [program for program in others if self.touches[program].get(step[2]) == "write"]
        if step[0] == "close":
            return [program for program in others if self._touched_any(program, step[2])]
        return []

    def after(self, step):
        """Return what is held after the step, or raise the first error that applies but `Full`."""
        if not valid_step(step):
            raise InvalidStep(step)
        form, program = step[0], step[1]
        if form == "begin":
            return self._after_begin(program)
        if program not in self.line or program in self.ended:
            raise NotRunning(program)
        if form == "read":
            return self._after_read(step)
        if form == "close":
            return self._after_close(step)
        return self._left([program], [pair for pair in self.pairs if program not in pair])

    def without(self, lot):
        """Return what is held after the lot has been forgotten."""
        return self._left(lot, bypassed(self.pairs, lot))

    def order(self):
        """Return the ended programs in their serial order."""
        order = []
        left = self.ended
        while left:
            later = [other for one, other in self.pairs if one in left]
            program = [name for name in left if name not in later][0]
            order.append(program)
            left = [name for name in left if name != program]
        return order

    def memory(self):
        """Return the memory of what is held."""
        running = self.running
        leads = [(program, name) for program in running for name in self._led(program) if name in running]
        words = {(program, thing): "own" for program in running for thing in self.touches[program]}
        for program, thing, candidates in self.needs():
            words[(program, thing)] = self.touches[candidates[0]][thing]
        return Memory(running, leads, [(program, thing, word) for (program, thing), word in words.items()])

    def needs(self):
        """Return the needs as triples of a program, a thing and the candidates."""
        return [need for program in self.running for need in self._needs_of(program)]

    def is_lot(self, names):
        """Tell whether the names are a lot."""
        return all([name in self.ended for name in names]) and len(set(names)) == len(names)

    def may_forget(self, lot):
        """Tell whether the lot may go."""
        return all([any([name not in lot for name in candidates]) for _, _, candidates in self.needs()])

    def free_lots(self, size):
        """Return the lots of this size that may go, in their order."""
        # A bit for each ended program, because there may be many lots to try.
        bits = {program: 1 << at for at, program in enumerate(self.ended)}
        needs = [sum([bits[name] for name in candidates]) for _, _, candidates in self.needs()]
        return [
            list(lot) for lot in combinations(self.ended, size)
            if _spares_all(sum([bits[name] for name in lot]), needs)
        ]

    def fewest(self):
        """Return a list of as few ended programs as possible that can stay alone, in order of ending."""
        cover = smallest_cover([candidates for _, _, candidates in self.needs()])
        return [program for program in self.ended if program in cover]

    def _touched_any(self, program, things):
        return any([thing in self.touches[program] for thing in things])

    def _after_begin(self, program):
        if program in self.line:
            raise Taken(program)
        return Held(self.line + [program], self.ended, {**self.touches, program: {}}, self.pairs)

    def _after_read(self, step):
        _, program, thing = step
        pairs = self._drawn(step)
        touches = {**self.touches, program: {**self.touches[program], thing: "read"}}
        return Held(self.line, self.ended, touches, pairs)

    def _after_close(self, step):
        _, program, things = step
        pairs = self._drawn(step)
        touched = dict(self.touches[program])
        for thing in things:
            touched[thing] = "write"
        line = [name for name in self.line if name != program] + [program]
        return Held(line, self.ended + [program], {**self.touches, program: touched}, pairs)

    def _drawn(self, step):
        """Return the arcs with those that a read or a close draws, or raise its refusal."""
        program = step[1]
        clashes = self.clashes(step)
        ring = shortest_path(self.pairs, program, clashes)
        if ring is not None:
            raise Refused(step, ring) from Ring(list(ring))
        drawn = [(other, program) for other in clashes]
        return self.pairs + [pair for pair in drawn if pair not in self.pairs]

    def _left(self, gone, pairs):
        """Return what is held when some programs are gone and these arcs are left."""
        line = [program for program in self.line if program not in gone]
        ended = [program for program in self.ended if program not in gone]
        return Held(line, ended, {program: dict(self.touches[program]) for program in line}, pairs)

    def _led(self, program):
        """Return the programs that a running program leads to."""
        return reached(self.pairs, program, self.ended)

    def _needs_of(self, program):
        led = self._led(program)
        met = [name for name in self.ended if name in led]
        things = sorted(set([thing for name in met for thing in self.touches[name]]))
        return [(program, thing, self._candidates(met, thing)) for thing in things]

    def _candidates(self, met, thing):
        """Return those of the programs that have the strongest touch of the thing."""
        writers = [name for name in met if self.touches[name].get(thing) == "write"]
        if writers:
            return writers
        return [name for name in met if thing in self.touches[name]]


def _spares_all(lot, needs):
    """Tell whether each need has a candidate outside of the lot, all of them given as bits."""
    for need in needs:
        if need & lot == need:
            return False
    return True
