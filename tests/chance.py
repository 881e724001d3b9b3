"""Stores and steps that are drawn by lot; the lot is the same in each run."""

from scopebind.errors import LoadError
from scopebind.libraries import Library, Store
from tests.samples import words


def drawn(rng, some, most):
    some = list(some)
    return tuple(rng.sample(some, min(len(some), rng.randint(0, most))))


def chance_store(rng, many, symbols, needs=2, absent=0.1, eager=0.2, own_first=0.3):
    """Return a store of so many libraries a, b, c .. over so many symbols; some may need one that is absent."""
    row = list("abcdefghijklmnop"[:many])
    signs = words(symbols)
    libraries = []
    for at, name in enumerate(row):
        # Mostly later libraries are needed, so that not all of them hang together.
        others = row[at + 1:] if rng.random() < 0.7 else row
        wanted = drawn(rng, [other for other in others if other != name], needs)
        if rng.random() < absent:
            wanted += ("absent",)
        uses = drawn(rng, signs, 3)
        libraries.append(Library(
            name, needs=wanted, defines=drawn(rng, signs, 2), uses=uses, weak=drawn(rng, uses, 2),
            eager=rng.random() < eager, own_first=rng.random() < own_first,
        ))
    return Store(libraries)


def chance_step(rng, store, process):
    """Return a step that may or may not fail in this process."""
    kind = rng.choice(["attach", "attach", "detach", "call", "call"])
    row = process.loaded()
    if kind == "attach":
        return ("attach", rng.choice("abcdefghijklmnop"[:len(store)]), rng.random() < 0.4)
    if kind == "detach":
        return ("detach", rng.choice([handle for handle, _ in process.handles()] + [99]))
    uses = [(name, symbol) for name in row for symbol in store[name].uses]
    return ("call", *rng.choice(uses + [(row[0], "zzz")]))


def taken(process, step):
    """Perform a step of a process or a model; return its result, or its error with the value."""
    try:
        if step[0] == "attach":
            return process.attach(step[1], spread=step[2])
        return getattr(process, step[0])(*step[1:])
    except LoadError as error:
        return (error.__class__.__name__, vars(error))


def chance_process(rng, store, build, steps):
    """Return a process of the store after some steps, or None if none of the tries starts."""
    for _ in range(10):
        row = list("abcdefghijklmnop"[:len(store)])
        rng.shuffle(row)
        try:
            process = build(store, row[0], preloads=tuple(row[1:1 + rng.choice([0, 0, 0, 1, 1, 2])]))
        except LoadError:
            continue
        for _ in range(steps):
            taken(process, chance_step(rng, store, process))
        return process
    return None
