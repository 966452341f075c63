"""What parts two memories, and what a list of steps can do without."""

from itertools import combinations

from letforget.errors import Refused, Unlike
from letforget.memory import Memory
from letforget.web import reached


def verdicts(keeper, steps):
    """Return for each step whether the keeper would let it, without changing the keeper."""
    tried = keeper.without([])
    found = []
    for step in steps:
        try:
            tried(step)
        except Refused:
            found.append(False)
        else:
            found.append(True)
    return found


def parting(one, other, *, taken=()):
    """Return steps that part the two memories, None if they are equal."""
    programs = _in_one_only(one.running, other.running)
    if programs:
        return [("quit", programs[0])]
    leads = _in_one_only(one.leads, other.leads)
    if leads:
        return _parting_by_lead(one, other, leads[0])
    marks = _in_one_only(one.marks, other.marks)
    if marks:
        return _parting_by_mark(one, other, marks[0], taken)
    return None


def shortest_parting(one, other):
    """Return a shortest test that parts the two memories, None if no test parts them."""
    running = one.running
    if running != other.running:
        raise Unlike()
    if one == other:
        return None
    first = (one.leads, one.marks)
    second = (other.leads, other.marks)
    for many in range(len(running)):
        for gone in _choices(running, many):
            left = [program for program in running if program not in gone]
            steps = _in_one_only(_refused_steps(first, left), _refused_steps(second, left))
            if steps:
                return _quits(gone) + steps[:1]
    return None


def trimmed(steps):
    """Return the steps without those of the programs that do not matter for their memory."""
    whole = Memory.of(steps)
    kept = list(steps)
    for program in [step[1] for step in steps if step[0] == "begin"]:
        rest = [step for step in kept if step[1] != program]
        if program not in whole.running and Memory.of(rest) == whole:
            kept = rest
    return kept


def _parting_by_lead(one, other, lead):
    """Return steps that part two memories of which one has the lead."""
    program, led = lead
    thing = _new_name([mark[1] for mark in one.marks + other.marks])
    quits = _quits([name for name in one.running if name not in lead])
    return quits + [("read", led, thing), ("close", program, (thing,))]


def _parting_by_mark(one, other, mark, taken):
    """Return steps that part two memories of which one has the mark."""
    program, thing, _ = mark
    word = (one.mark(program, thing) | other.mark(program, thing)).word
    quits = _quits([name for name in one.running if name != program])
    read = ("read", program, thing)
    if word == "write":
        return quits + [read]
    if word == "read":
        return quits + [("close", program, (thing,))]
    # Once another program has written the thing, the mark `own` has become `write`, and `none` has not.
    writer = _new_name([*one.running, *taken])
    return quits + [("begin", writer), ("close", writer, (thing,)), read]


def _refused_steps(table, left):
    """Return a dict of the reads, and closes of one thing, that are refused if only some programs are left."""
    leads, marks = table
    steps = {}
    for program in left:
        met = [program] + [name for name in reached(leads, program, left) if name in left]
        for name, thing, word in marks:
            if name in met and word == "write":
                steps[("read", program, thing)] = True
            if name in met and (word != "own" or name != program):
                steps[("close", program, (thing,))] = True
    return steps


def _in_one_only(some, others):
    return [part for part in some if part not in others] + [part for part in others if part not in some]


def _choices(names, many):
    return [list(some) for some in combinations(names, many)]


def _quits(programs):
    return [("quit", program) for program in programs]


def _new_name(barred):
    number = 0
    while f"n{number}" in barred:
        number = number + 1
    return f"n{number}"
