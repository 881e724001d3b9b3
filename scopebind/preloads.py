"""Which preloads give wished definitions."""

from scopebind.closures import closure
from scopebind.errors import NoWishes
from scopebind.searching import first_definer
from scopebind.words import is_word


def meets(process, wishes):
    """Tell whether each wished symbol is first defined by the wished library in the global scope."""
    check_wishes(process.store, wishes)
    scope = process.scope()
    return all([first_definer(process.store, scope, symbol) == wishes[symbol] for symbol in wishes])


def check_wishes(store, wishes):
    """Raise NoWishes if wishes, of any kind, is no dict from symbols to names of the store."""
    if not isinstance(wishes, dict) or not all([isinstance(symbol, str) for symbol in wishes]):
        raise NoWishes(None)
    for symbol in sorted(list(wishes)):
        if not is_word(symbol) or wishes[symbol] not in store:
            raise NoWishes(symbol)


def least_preloads(store, main, wishes):
    """Return the least preloads that meet the wishes, or why there are none, as a tuple."""
    scope = closure(store, main)
    check_wishes(store, wishes)
    for symbol in sorted(list(wishes)):
        if symbol not in store[wishes[symbol]].defines:
            return ("undefined", symbol)
    for symbol in sorted(list(wishes)):
        if wishes[symbol] != main and symbol in store[main].defines:
            return ("main", symbol)
    elders = {name: elders_of(store, main, wishes, name) for name in required(store, main, scope, wishes)}
    return arranged(elders)


def elders_of(store, main, wishes, name):
    """Return the libraries that must stand ahead of this one, each with a symbol for which it is wished."""
    found = {}
    for symbol in sorted(list(wishes)):
        elder = wishes[symbol]
        if symbol in store[name].defines and elder not in (name, main):
            found.setdefault(elder, symbol)
    return found


def required(store, main, scope, wishes):
    """Return the list of the required libraries; scope is the global scope without preloads."""
    found = []
    for symbol in wishes:
        if first_definer(store, scope, symbol) != wishes[symbol] and wishes[symbol] not in found:
            found.append(wishes[symbol])
    at = 0
    while at < len(found):
        here = found[at]
        for elder in elders_of(store, main, wishes, here):
            if elder not in found:
                found.append(elder)
        at += 1
    return found


def arranged(elders):
    """Return the answer for libraries with these elders: their least order, or a ring."""
    left = sorted(list(elders))
    row = []
    while left:
        ready = [name for name in left if not any([elder in left for elder in elders[name]])]
        if not ready:
            return ("ring", ring_of(elders, left))
        row.append(ready[0])
        left.remove(ready[0])
    return ("order", row)


def ring_of(elders, left):
    """Return a ring out of libraries each of which has an elder among them."""
    row = [left[0]]
    elder = first_elder(elders, left, row[0])
    while elder not in row:
        row.append(elder)
        elder = first_elder(elders, left, elder)
    # The row goes from each library to its elder; the ring leads from the elder to the younger one.
    ring = row[row.index(elder):][::-1]
    return [(name, elders[younger][name]) for name, younger in zip(ring, ring[1:] + ring[:1])]


def first_elder(elders, left, name):
    """Return the first of the elders of a library that is left, too."""
    return [elder for elder in elders[name] if elder in left][0]
