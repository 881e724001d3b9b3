"""Libraries, and stores of libraries."""

from scopebind.errors import NoLibrary, NoName, NoStore
from scopebind.words import are_words, is_word

MOST_NEEDS = 12
MOST_SYMBOLS = 20
MOST_LIBRARIES = 40


class Library:
    """A library: what it needs, defines and uses, and how it binds. It is not changed."""

    def __init__(self, name, *, needs=(), defines=(), uses=(), weak=(), eager=False, own_first=False):
        if not is_word(name):
            raise NoLibrary("name")
        if not are_words(needs, MOST_NEEDS) or name in needs:
            raise NoLibrary("needs")
        if not are_words(defines, MOST_SYMBOLS):
            raise NoLibrary("defines")
        if not are_words(uses, MOST_SYMBOLS):
            raise NoLibrary("uses")
        if not are_words(weak, MOST_SYMBOLS) or not all([symbol in uses for symbol in weak]):
            raise NoLibrary("weak")
        if not isinstance(eager, bool):
            raise NoLibrary("eager")
        if not isinstance(own_first, bool):
            raise NoLibrary("own_first")
        self.name = name
        self.needs = needs
        self.defines = defines
        self.uses = uses
        self.weak = weak
        self.eager = eager
        self.own_first = own_first

    def __eq__(self, other):
        return (
            isinstance(other, Library)
            and self.name == other.name
            and self.needs == other.needs
            and self.defines == other.defines
            and self.uses == other.uses
            and self.weak == other.weak
            and self.eager == other.eager
            and self.own_first == other.own_first
        )


class Store:
    """Libraries by their names. It is not changed."""

    def __init__(self, libraries):
        if not isinstance(libraries, list):
            raise NoStore(None)
        table = {}
        for at, library in enumerate(libraries):
            if at == MOST_LIBRARIES or not isinstance(library, Library) or library.name in table:
                raise NoStore(at)
            table[library.name] = library
        self._table = table

    def __contains__(self, x):
        # Only strings are looked up: other objects may be unhashable, or equal to a name.
        return isinstance(x, str) and x in self._table

    def __getitem__(self, at):
        if at not in self:
            raise NoName(at)
        return self._table[at]

    def __iter__(self):
        raise TypeError("a store is not iterated over: take its names")

    def __len__(self):
        return len(self._table)


def names(store):
    """Return the sorted list of the names of the store's libraries."""
    return sorted(list(store._table))
