"""What a library needs, and which libraries define a symbol."""

from scopebind.errors import Missing, NoName, NoSymbol
from scopebind.words import is_word


def closure(store, name):
    """Return the list of the library and all that it needs, breadth first."""
    if name not in store:
        raise NoName(name)
    found = [name]
    at = 0
    while at < len(found):
        library = store[found[at]]
        for need in library.needs:
            if need not in store:
                raise Missing(need)
            if need not in found:
                found.append(need)
        at += 1
    return found


def definers(store, some, symbol):
    """Return those of the listed names whose libraries define the symbol."""
    for name in some:
        if name not in store:
            raise NoName(name)
    if not is_word(symbol):
        raise NoSymbol(symbol)
    return [name for name in some if symbol in store[name].defines]
