"""The fewest bound uses that keep a library, and as many chains that share none of them.

This is a flow from the roots to the library. A step by need lets any amount
through, a step by binding one for each bound use; the greatest flow is as large
as the least cut, and falls apart into the chains.
"""

from scopebind.holding import path_to, reached


def pinned(needs, bound, roots, name):
    """Return the tuple (cut, chains), or None if the roots lead to the library by needs alone."""
    if name in reached(needs, roots):
        return None
    most = capacities(needs, bound)
    room = filled(most, roots, name)
    inside = reached(passable(room), roots)
    cut = [use for use in bound if use[0] in inside and bound[use] not in inside]
    flow = {here: {there: most[here][there] - room[here][there] for there in room[here]} for here in room}
    return (sorted(cut), chains_of(needs, bound, flow, roots, name))


def capacities(needs, bound):
    """Return how much each step lets through: by need more than all bound uses together, backwards nothing."""
    most = {name: {} for name in sorted(list(needs))}
    # Sorted, so that the order in which uses were bound leaves no trace in the answer.
    for name, symbol in sorted(list(bound)):
        other = bound[(name, symbol)]
        most[name][other] = most[name].get(other, 0) + 1
        most[other].setdefault(name, 0)
    for name in sorted(list(needs)):
        for other in needs[name]:
            most[name][other] = len(bound) + 1
            most[other].setdefault(name, 0)
    return most


def passable(room):
    """Return the steps that let something through."""
    return {here: [there for there in room[here] if room[here][there] > 0] for here in room}


def filled(most, roots, name):
    """Return the room that a greatest flow leaves at each step."""
    room = {here: dict(most[here]) for here in most}
    before = reached(passable(room), roots)
    while name in before:
        path = path_to(before, name)
        steps = list(zip(path, path[1:]))
        amount = min([room[one][other] for one, other in steps])
        for one, other in steps:
            room[one][other] -= amount
            room[other][one] += amount
        before = reached(passable(room), roots)
    return room


def chains_of(needs, bound, flow, roots, name):
    """Return the chains that the flow consists of, and use it up."""
    symbols = {}
    for use in sorted(list(bound)):
        symbols.setdefault((use[0], bound[use]), []).append(use[1])
    chains = []
    before = reached(passable(flow), roots)
    while name in before:
        path = path_to(before, name)
        chain = [path[0]]
        for one, other in zip(path, path[1:]):
            flow[one][other] -= 1
            if other not in needs[one]:
                chain.append((symbols[(one, other)].pop(),))
            chain.append(other)
        chains.append(chain)
        before = reached(passable(flow), roots)
    return chains
