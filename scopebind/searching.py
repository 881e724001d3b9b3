"""Where a library looks for a symbol."""


def search_order(library, scope, local):
    """Return the list of the libraries in which this one looks, without repetition."""
    if library.own_first:
        return joined(local, scope)
    return joined(scope, local)


def joined(some, more):
    """Return the first list followed by what the second one adds to it."""
    return some + [name for name in more if name not in some]


def first_definer(store, some, symbol):
    """Return the first of the listed names whose library defines the symbol, or None."""
    for name in some:
        if symbol in store[name].defines:
            return name
    return None
