"""The errors of the loader.

Each error keeps the object that it is constructed from, of whatever kind, and
makes no message of it: an object may be one that cannot be shown.
"""


class LoadError(ValueError):
    """The base class of all errors."""


class NoLibrary(LoadError):
    """A library cannot have this value; part is the name of the parameter."""

    def __init__(self, part):
        self.part = part


class NoStore(LoadError):
    """A store cannot have these libraries; at is the index of the first wrong one, or None."""

    def __init__(self, at):
        self.at = at


class NoName(LoadError):
    """The store has no library with this name."""

    def __init__(self, name):
        self.name = name


class Missing(LoadError):
    """A needed library is absent from the store."""

    def __init__(self, name):
        self.name = name


class NoSymbol(LoadError):
    """This is not a symbol."""

    def __init__(self, symbol):
        self.symbol = symbol


class NoPreloads(LoadError):
    """These cannot be preloads; at is the index of the first wrong one, or None."""

    def __init__(self, at):
        self.at = at


class NotLoaded(LoadError):
    """No library with this name is loaded."""

    def __init__(self, name):
        self.name = name


class NotUsed(LoadError):
    """The library does not use this symbol."""

    def __init__(self, symbol):
        self.symbol = symbol


class Unresolved(LoadError):
    """A use that is not weak has no target; use is the tuple (name, symbol)."""

    def __init__(self, use):
        self.use = use


class NoHandle(LoadError):
    """This is not a handle that is in use."""

    def __init__(self, handle):
        self.handle = handle


class NoWishes(LoadError):
    """These cannot be wishes; symbol is the least wrong key, or None."""

    def __init__(self, symbol):
        self.symbol = symbol
