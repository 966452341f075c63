"""Paths in a web of arcs, which may form rings."""


def shortest_path(arcs, start, goals):
    """Return a path from the start to a goal with as few names as possible, None if there is none."""
    onward = _onward(arcs)
    paths = [[start]]
    seen = {start: True}
    at = 0
    while at < len(paths):
        path = paths[at]
        if path[-1] in goals:
            return path
        for name in onward.get(path[-1], []):
            if name not in seen:
                seen[name] = True
                paths.append([*path, name])
        at = at + 1
    return None


def reached(arcs, start, through):
    """Return the names to which a path leads from the start with only names of `through` between."""
    onward = _onward(arcs)
    found = [start]
    at = 0
    while at < len(found):
        # The start is the first name of each path, so it need not be in `through`.
        if at == 0 or found[at] in through:
            found = found + [name for name in onward.get(found[at], []) if name not in found]
        at = at + 1
    return sorted(set(found[1:]))


def bypassed(arcs, gone):
    """Return the pairs of names outside of `gone` that a path joins with only names of `gone` between."""
    starts = sorted(set([one for one, _ in arcs if one not in gone]))
    return [(one, other) for one in starts for other in reached(arcs, one, gone) if other not in gone]


def _onward(arcs):
    onward = {}
    for one, other in arcs:
        onward.setdefault(one, []).append(other)
    return onward
