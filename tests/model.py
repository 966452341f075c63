"""Slow models that follow the words of the document, for the tests to compare with."""

import copy
import itertools

WORDS = ["none", "own", "read", "write"]


def all_paths(arcs, start, between=None):
    """Give each path of two or more names from the start, with only names of `between` between."""
    found = []
    unfinished = [[start]]
    while unfinished:
        path = unfinished.pop()
        for one, other in arcs:
            if one == path[-1] and other not in path:
                found.append(path + [other])
                if between is None or other in between:
                    unfinished.append(path + [other])
    return found


class SlowKeeper:
    """A keeper without a limit, by points 6 to 14, 19, 20 and 22; it only takes steps of the right programs."""

    def __init__(self):
        self.running = []
        self.ended = []
        self.arcs = []
        self.touched = {}
        self.now = 0
        self.began_at = {}
        self.ended_at = {}

    def take(self, step):
        """Take a step if it is let, and tell whether it is."""
        program = step[1]
        clashes = self.clashes(step)
        if self.rings(step):
            return False
        self.now += 1
        for other in clashes:
            if (other, program) not in self.arcs:
                self.arcs.append((other, program))
        if step[0] == "begin":
            self.running.append(program)
            self.touched[program] = {}
            self.began_at[program] = self.now
        elif step[0] == "read":
            self.touched[program].setdefault(step[2], "read")
        elif step[0] == "close":
            self.running.remove(program)
            self.ended.append(program)
            self.ended_at[program] = self.now
            self.touched[program].update({thing: "write" for thing in step[2]})
        else:
            self.running.remove(program)
            del self.touched[program]
            self.arcs = [arc for arc in self.arcs if program not in arc]
        return True

    def clashes(self, step):
        others = [name for name in self.running + self.ended if name != step[1]]
        if step[0] == "read":
            return [name for name in others if self.touched[name].get(step[2]) == "write"]
        if step[0] == "close":
            return [name for name in others if any(thing in self.touched[name] for thing in step[2])]
        return []

    def rings(self, step):
        """Give each path for which a step is refused, none if it is let."""
        clashes = self.clashes(step)
        return [path for path in all_paths(self.arcs, step[1]) if path[-1] in clashes]

    def copy(self):
        return copy.deepcopy(self)

    def forget(self, lot):
        """Forget a lot, whether it may go or not."""
        rest = [name for name in self.running + self.ended if name not in lot]
        self.arcs = [(one, other) for one in rest for other in rest
                     if any(path[-1] == other for path in all_paths(self.arcs, one, lot))]
        self.ended = [name for name in self.ended if name not in lot]
        for name in lot:
            del self.touched[name]

    def led(self, program):
        """Give the programs that a running program leads to."""
        return {path[-1] for path in all_paths(self.arcs, program, self.ended)}

    def may_go(self, lot):
        """Tell whether a lot may go, by the words of point 20."""
        for name in lot:
            for thing, word in self.touched[name].items():
                for program in self.running:
                    led = self.led(program)
                    others = [other for other in self.ended if other in led and other not in lot]
                    words = [self.touched[other].get(thing, "none") for other in others]
                    if name in led and not any(WORDS.index(some) >= WORDS.index(word) for some in words):
                        return False
        return True

    def order(self):
        """Give the ended programs in their serial order."""
        order, left = [], list(self.ended)
        while left:
            free = [name for name in left if not any((other, name) in self.arcs for other in left)]
            order.append(min(free, key=left.index))
            left.remove(order[-1])
        return order

    def needs(self):
        """Give the needs as triples, ascending."""
        found = []
        for program, thing, word in self.memory()[2]:
            if word != "own":
                led = self.led(program)
                names = [name for name in self.ended if name in led and self.touched[name].get(thing) == word]
                found.append((program, thing, names))
        return found

    def memory(self):
        """Give the running programs, leads and marks, each ascending."""
        leads, marks = [], []
        for program in sorted(self.running):
            led = self.led(program)
            leads += [(program, other) for other in sorted(self.running) if other in led]
            met = [self.touched[name] for name in led if name in self.ended]
            for thing in sorted({thing for touched in self.touched.values() for thing in touched}):
                words = [touched[thing] for touched in met if thing in touched]
                if words:
                    marks.append((program, thing, max(words)))
                elif thing in self.touched[program]:
                    marks.append((program, thing, "own"))
        return (sorted(self.running), leads, marks)


def slow_next(running, leads, marks, step):
    """Give what a step of a running program makes of a memory by point 15.

    The answer is the next three lists, or the list of all rings if the step is
    refused. The program is running, and a begin is left to the other tests.
    """
    program = step[1]
    things = sorted({mark[1] for mark in marks} | set([step[2]] if step[0] == "read" else sum(step[2:], ())))
    rank = {(name, thing): 0 for name in running for thing in things}
    rank.update({(name, thing): WORDS.index(word) for name, thing, word in marks})
    led = set(leads)
    if step[0] == "read":
        bars = {name for name in running if rank[name, step[2]] == 3}
    elif step[0] == "close":
        bars = {name for name in running for thing in step[2]
                if rank[name, thing] >= 2 or (rank[name, thing] == 1 and name != program)}
    else:
        bars = set()
    rings = [path for path in [[program]] + all_paths(leads, program) if path[-1] in bars]
    if rings:
        return sorted(ring for ring in rings if len(ring) == min(map(len, rings)))
    if step[0] == "read":
        led |= {(name, program) for name in running if rank[name, step[2]] == 3 and name != program}
        rank[program, step[2]] = max(rank[program, step[2]], 1)
        return listed(running, led, rank, things)
    if step[0] == "close":
        followers = [name for name in running if name != program
                     and ((name, program) in leads or any(rank[name, thing] > 0 for thing in step[2]))]
        for follower, other in itertools.product(followers, running):
            if (program, other) in leads and follower != other:
                led.add((follower, other))
        for follower, thing in itertools.product(followers, things):
            passed = 3 if thing in step[2] else [0, 2, 2, 3][rank[program, thing]]
            rank[follower, thing] = max(rank[follower, thing], passed)
    rest = [name for name in running if name != program]
    return listed(rest, {lead for lead in led if program not in lead}, rank, things)


def listed(running, led, rank, things):
    marks = [(name, thing, WORDS[rank[name, thing]]) for name in sorted(running) for thing in things]
    return (sorted(running), sorted(led), [mark for mark in marks if mark[2] != "none"])


def parts(memory):
    return (memory.running, memory.leads, memory.marks)


def all_memories(running, things):
    """Give the lists of each memory of these programs with marks on these things."""
    pairs = list(itertools.permutations(running, 2))
    places = list(itertools.product(running, things))
    for some in itertools.product([False, True], repeat=len(pairs)):
        for words in itertools.product(WORDS, repeat=len(places)):
            leads = [pair for pair, taken in zip(pairs, some) if taken]
            marks = [place + (word,) for place, word in zip(places, words) if word != "none"]
            yield running, leads, marks


def told(keeper):
    """Give all that a keeper tells of itself, without objects that are compared by identity."""
    held = keeper.running + list(keeper)
    touched = [(name, [(thing, mark.word) for thing, mark in keeper[name]]) for name in held]
    return (keeper.limit, keeper.running, list(keeper), keeper.timeline(), touched, keeper.arcs(), keeper.order(),
            parts(keeper.memory()), keeper.needs())


def told_slowly(slow, limit=12):
    """Give the same of a slow keeper."""
    held = sorted(slow.running) + slow.ended
    moments = {name: slow.began_at[name] for name in slow.running}
    moments.update({name: slow.ended_at[name] for name in slow.ended})
    touched = [(name, sorted(slow.touched[name].items())) for name in held]
    return (limit, sorted(slow.running), slow.ended, sorted(held, key=moments.get), touched, sorted(slow.arcs),
            slow.order(), slow.memory(), slow.needs())


def random_step(chance, slow, names, things, most=5, most_ended=7):
    """Give a step of the right program, which a slow keeper lets or refuses."""
    free = [name for name in names if name not in slow.touched]
    form = chance.choice(["begin"] * 6 + ["read"] * 14 + ["close"] * 6 + ["quit"])
    if not slow.running or (form == "begin" and free and len(slow.running) < most):
        return ("begin", chance.choice(free))
    program = chance.choice(slow.running)
    if form == "close" and len(slow.ended) < most_ended:
        # Mostly the one that began last, so that others still run that have read what it writes.
        program = chance.choice([program, slow.running[-1], slow.running[-1]])
        return ("close", program, tuple(chance.sample(things, min(len(things), chance.choice([0, 1, 1, 2, 3])))))
    if form == "quit":
        return ("quit", program)
    return ("read", program, chance.choice(things))


def all_lots(names):
    """Give each list of some of the names in their order, the shorter ones first."""
    return [list(lot) for size in range(len(names) + 1) for lot in itertools.combinations(names, size)]


def lists_in(value):
    """Give each list in a value, itself included, as often as it occurs."""
    found = [value] if isinstance(value, list) else []
    if isinstance(value, (list, tuple)):
        for part in value:
            found += lists_in(part)
    return found
