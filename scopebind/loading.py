"""What a start loads, and in which order libraries are initialized."""

from scopebind.errors import NoName, NoPreloads


def check_start(store, main, preloads):
    """Raise the error of a start with these arguments, which may be of any kind."""
    if main not in store:
        raise NoName(main)
    if not isinstance(preloads, tuple):
        raise NoPreloads(None)
    for at, name in enumerate(preloads):
        if name not in store or name == main or name in preloads[:at]:
            raise NoPreloads(at)


def initialization(store, name, loaded):
    """Return the libraries that are initialized when this one is loaded beside the loaded ones, in their order."""
    seen = {other: True for other in loaded}
    row = []
    if name not in seen:
        visit(store, name, seen, row)
    return row


def visit(store, name, seen, row):
    """Append the library to the row behind those of its needs that were not seen before."""
    seen[name] = True
    for need in store[name].needs:
        if need not in seen:
            visit(store, need, seen, row)
    row.append(name)
