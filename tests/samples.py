"""Objects that the tests share: odd objects of many kinds, and the libraries of DOC.md."""

from scopebind.libraries import Library, Store


class Hostile:
    """An object that can be neither compared nor hashed, measured, iterated or shown."""

    def refuse(self, *rest):
        raise RuntimeError("this object was asked something")

    __eq__ = __ne__ = __hash__ = __len__ = __iter__ = __bool__ = __repr__ = __str__ = refuse
    __contains__ = __getitem__ = __lt__ = __gt__ = __le__ = __ge__ = refuse


class Same:
    """An object that claims to be equal to everything, and to have the hash of one name."""

    def __init__(self, name):
        self.name = name

    def __eq__(self, other):
        return True

    def __hash__(self):
        return hash(self.name)

    def __repr__(self):
        return "Same"


def no_strings():
    """Return objects of many kinds, none of them a string."""
    return [
        None, True, False, 0, 1, -1, 10 ** 30, 3 + 4j, b"app", bytearray(b"app"),
        (), ("app",), ("app", "core"), [], ["app"], ["app", []], {}, {"app": "core"}, set(), {"app"},
        frozenset(["app"]), range(3), slice(0, 1), object(), Hostile(), Same("app"), Library("app"),
        Store([]), Store([Library("app")]), len, str, Library, ValueError("app"), NotImplemented, Ellipsis,
        iter(["app"]), lambda: "app",
    ]


def no_words():
    """Return objects of many kinds, none of them a name or a symbol."""
    strings = [
        "", "A", "App", "apP", "a" * 13, "a" * 1000, "a b", " app", "app ", "app\n", "\n", "a1", "1", "a_b",
        "a-b", "a.b", "a\0", "`", "{", "\u00e4", "\u00df", "\uff41", "\u0430", "a\u0301", "\u1e01", "\u00aa",
    ]
    return strings + no_strings()


def words(many):
    """Return a tuple of so many distinct words (at most 676)."""
    letters = "abcdefghijklmnopqrstuvwxyz"
    return tuple([first + second for first in letters for second in letters][:many])


def example_libraries():
    return [
        Library("app", needs=("ui", "core"), uses=("put", "get")),
        Library("ui", needs=("core",), defines=("put",)),
        Library("core", defines=("put", "get")),
        Library("extra", needs=("core",), defines=("get",), uses=("log",), weak=("log",)),
        Library("log", defines=("log",)),
    ]


def example_store():
    return Store(example_libraries())


def store_of(needs):
    """Return a store with a library for each key of the dict, with these needs."""
    return Store([Library(name, needs=needs[name]) for name in needs])


def no_handles():
    """Return objects of many kinds, none of them a handle, unless 0 or 1 is one."""
    return no_words() + ["app", (1,), [1], {1: "app"}, {1}, -2, 99, 2 ** 70, 1 + 0j, "1", b"1"]


def process_kept(process):
    """Return what tells the state of a process, to see that nothing changed it."""
    row = process.loaded()
    return [
        process.scope(), process.order(), row, [process.local(name) for name in row], process.bindings(),
        process.handles(), len(process),
    ]
