"""Which targets can still change, and by which steps."""

from scopebind.closures import closure
from scopebind.errors import Missing
from scopebind.libraries import names
from scopebind.searching import first_definer, joined, search_order


def changers(process, name, symbol):
    """Return the sorted list of the names whose opening with spread, now, would change the target of the use."""
    now = process.target(name, symbol)
    if is_bound(process, name, symbol):
        return []
    store = process.store
    scope = process.scope()
    local = process.local(name)
    found = []
    for other in names(store):
        wider = joined(scope, closure_or_nothing(store, other))
        if first_definer(store, search_order(store[name], wider, local), symbol) != now:
            found.append(other)
    return found


def is_bound(process, name, symbol):
    """Tell whether the use is bound."""
    return any([use[:2] == (name, symbol) for use in process.bindings()])


def closure_or_nothing(store, name):
    """Return the closure of the library, or an empty list if it cannot be opened."""
    try:
        return closure(store, name)
    except Missing:
        return []


def run(process, steps):
    """Perform the steps; return the list of what they return."""
    return [perform(process, step) for step in steps]


def perform(process, step):
    """Perform one step; return what it returns."""
    if step[0] == "attach":
        return process.attach(step[1], spread=step[2])
    if step[0] == "detach":
        return process.detach(step[1])
    return process.call(step[1], step[2])


def upset(process, name, symbol):
    """Return steps that change the target of the use without calling it, or None if none ever can."""
    now = process.target(name, symbol)
    found = changers(process, name, symbol)
    if found:
        return [("attach", found[0], True)]
    # Scopes only grow at their ends, and which libraries can be opened never
    # changes: if no opening helps now, only unloading the target ever does.
    # (Of a bound use, too: its library leads to the target, so that none unloads it.)
    if now is None:
        return None
    return unloading(process, now, name)


def unloading(process, name, kept):
    """Return steps that unload a library and keep another one loaded all the time, or None.

    What leads to a library leads to it as long as it is loaded itself. So the one that is
    kept must not lead there, and everything that does has to be unloaded by closing handles.
    """
    twin = process.copy()
    handle = twin.attach(kept)
    holders = twin.holders(name)
    if holders is None or handle in holders:
        return None
    return [("attach", kept, False)] + [("detach", holder) for holder in holders]
