"""Which libraries lead to which, and paths between them.

What leads where is a dict from each name to a list of names. A search tells
for each library that it reaches the one before it, or None for where it began.
"""


def leads_of(needs, bound):
    """Return what each library leads to, sorted: its needs and the targets of its bound uses."""
    found = {name: list(needs[name]) for name in needs}
    for name, symbol in bound:
        found[name].append(bound[(name, symbol)])
    return {name: sorted(found[name]) for name in found}


def turned(leads):
    """Return what leads to each library."""
    found = {name: [] for name in leads}
    for name in leads:
        for other in leads[name]:
            found[other].append(name)
    return found


def reached(leads, roots):
    """Search breadth first from all roots at once; return the dict of what stands before each library.

    If the roots and the lists are sorted, libraries at the same distance are met in the
    order of their least paths, so that the path to each is the least of the shortest ones.
    """
    before = {root: None for root in roots}
    row = list(before)
    at = 0
    while at < len(row):
        here = row[at]
        for other in leads[here]:
            if other not in before:
                before[other] = here
                row.append(other)
        at += 1
    return before


def path_to(before, name):
    """Return the path on which a search reached the library."""
    path = [name]
    while before[path[-1]] is not None:
        path.append(before[path[-1]])
    return path[::-1]
