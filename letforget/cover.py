"""Covers of groups of names, and proofs that there is none with so few names."""


def smallest_cover(groups):
    """Return a cover of the groups with as few names as possible, ascending."""
    size = 0
    found = _cover(groups, size, [])
    while found is None:
        size = size + 1
        found = _cover(groups, size, [])
    return sorted(set(found))


def refutation(groups, size):
    """Return None if at most `size` names cover the groups, otherwise why they cannot."""
    return _refutation(groups, size, [])


def _cover(groups, size, chosen):
    """Return a cover with the chosen names and at most `size` further ones, None if there is none."""
    at = _uncovered(groups, chosen)
    if at is None:
        return chosen
    if size == 0:
        return None
    for name in groups[at]:
        found = _cover(groups, size - 1, [*chosen, name])
        if found is not None:
            return found
    return None


def _refutation(groups, size, chosen):
    """Return why `size` names besides the chosen ones are too few, None if they are enough."""
    at = _uncovered(groups, chosen)
    if at is None:
        return None
    if size == 0:
        return (at, [])
    branches = []
    for name in groups[at]:
        below = _refutation(groups, size - 1, [*chosen, name])
        if below is None:
            return None
        branches.append((name, below))
    return (at, branches)


def _uncovered(groups, chosen):
    """Return the index of a group without chosen names, None if there is none."""
    found = None
    for at, group in enumerate(groups):
        if any([name in chosen for name in group]):
            continue
        # The shortest one, because the search goes on once for each of its names.
        if found is None or len(group) < len(groups[found]):
            found = at
    return found
