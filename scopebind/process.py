"""A process: what is loaded, where symbols are looked for, what is bound, and what stays."""

from scopebind.closures import closure
from scopebind.errors import NoHandle, NoSymbol, NotLoaded, NotUsed, Unresolved
from scopebind.holding import leads_of, path_to, reached, turned
from scopebind.loading import check_start, initialization
from scopebind.pinning import pinned
from scopebind.searching import first_definer, joined, search_order
from scopebind.words import is_word


class Process:
    """A process that loads libraries of a store. Only attach, detach and call change it."""

    def __init__(self, store, main, *, preloads=()):
        check_start(store, main, preloads)
        parts = [closure(store, name) for name in [main, *preloads]]
        self.store = store
        # Main and the preloads: the roots that cannot be closed.
        self._fixed = [main, *preloads]
        self._scope = joined(self._fixed, parts[0])
        self._local_scopes = {}
        self._order = []
        self._bound = {}
        self._handles = {}
        self._last = 0
        for part in parts:
            self._load(part)
        self._bind_eager(list(self._order))

    def __contains__(self, x):
        # Only strings are looked up: other objects may be unhashable, or equal to a name.
        return isinstance(x, str) and x in self._local_scopes

    def __len__(self):
        return len(self._local_scopes)

    def scope(self):
        """Return the global scope."""
        return list(self._scope)

    def local(self, name):
        """Return the local scope of a loaded library."""
        self._want_loaded(name)
        return list(self._local_scopes[name])

    def order(self):
        """Return the loaded libraries in the order of their initialization."""
        return list(self._order)

    def loaded(self):
        """Return the sorted list of the loaded libraries."""
        return sorted(self._order)

    def copy(self):
        """Return a new process in the same state."""
        twin = Process(self.store, self._fixed[0], preloads=tuple(self._fixed[1:]))
        twin._scope = list(self._scope)
        # Local scopes are replaced, never changed: both processes may have the same ones.
        twin._local_scopes = dict(self._local_scopes)
        twin._order = list(self._order)
        twin._bound = {use: self._bound[use] for use in self._bound}
        twin._handles = dict(self._handles)
        twin._last = self._last
        return twin

    def attach(self, name, *, spread=False):
        """Open a library and return its handle; with spread, append its closure to the global scope."""
        part = closure(self.store, name)
        fresh = self._load(part)
        if spread:
            self._scope = joined(self._scope, part)
        self._bind_eager(fresh)
        self._last += 1
        self._handles[self._last] = name
        return self._last

    def call(self, name, symbol):
        """Return the target of a use, and bind the use to it."""
        found = self.target(name, symbol)
        if found is not None:
            self._bound[(name, symbol)] = found
        elif symbol not in self.store[name].weak:
            raise Unresolved((name, symbol))
        return found

    def target(self, name, symbol):
        """Return the target of a use, or None, and bind nothing."""
        self._want_loaded(name)
        want_symbol(symbol)
        if symbol not in self.store[name].uses:
            raise NotUsed(symbol)
        if (name, symbol) in self._bound:
            return self._bound[(name, symbol)]
        return first_definer(self.store, self._search(name), symbol)

    def bindings(self):
        """Return the sorted list of the bound uses, tuples (name, symbol, target)."""
        return sorted([(name, symbol, self._bound[(name, symbol)]) for name, symbol in self._bound])

    def handles(self):
        """Return the list of the open handles, tuples (handle, name), in ascending order."""
        return sorted(self._handles.items())

    def find(self, handle, symbol):
        """Return the first definer in the closure of the handle's library (for 0, in the global scope), or None."""
        at_scope = is_number(handle) and handle == 0
        if not at_scope:
            self._want_handle(handle)
        want_symbol(symbol)
        if at_scope:
            return first_definer(self.store, self._scope, symbol)
        return first_definer(self.store, closure(self.store, self._handles[handle]), symbol)

    def after(self, name, symbol):
        """Return the first definer behind the library itself in its search order, or None."""
        self._want_loaded(name)
        want_symbol(symbol)
        order = self._search(name)
        return first_definer(self.store, order[order.index(name) + 1:], symbol)

    def detach(self, handle):
        """Close an open handle; return what this unloads, in the reverse order of initialization."""
        going = self.goes((handle,))
        del self._handles[handle]
        self._unload(going)
        return going

    def why(self, name):
        """Return the least of the shortest paths from a root to a loaded library."""
        self._want_loaded(name)
        return path_to(reached(self._leads(), sorted(self._roots(()))), name)

    def holders(self, name):
        """Return the sorted list of the handles that hold a library; None if main or a preload does."""
        self._want_loaded(name)
        holding = reached(turned(self._leads()), [name])
        if any([root in holding for root in self._fixed]):
            return None
        return [handle for handle, root in self.handles() if root in holding]

    def goes(self, some):
        """Return what would be unloaded if these handles were closed, in the order of detach."""
        self._want_handles(some)
        held = reached(self._leads(), self._roots(some))
        return [name for name in self._order[::-1] if name not in held]

    def pins(self, name, some):
        """Return the fewest bound uses that would keep a library if these handles were closed.

        The answer is a tuple (cut, chains), or None if it is a root then or needs alone would keep it.
        """
        self._want_loaded(name)
        self._want_handles(some)
        return pinned(self._needs(), self._bound, sorted(self._roots(some)), name)

    def _want_loaded(self, name):
        if name not in self:
            raise NotLoaded(name)

    def _want_handle(self, handle):
        if not is_number(handle) or handle not in self._handles:
            raise NoHandle(handle)

    def _want_handles(self, some):
        if not isinstance(some, tuple):
            raise NoHandle(some)
        for at, handle in enumerate(some):
            self._want_handle(handle)
            if handle in some[:at]:
                raise NoHandle(handle)

    def _load(self, part):
        """Load what is not loaded of a closure; return it in the order of initialization."""
        fresh = initialization(self.store, part[0], self._local_scopes)
        for name in fresh:
            self._local_scopes[name] = part
        self._order = self._order + fresh
        return fresh

    def _bind_eager(self, fresh):
        """Bind the uses of the eager ones among the newly loaded libraries."""
        for name in fresh:
            if self.store[name].eager:
                order = self._search(name)
                for symbol in self.store[name].uses:
                    found = first_definer(self.store, order, symbol)
                    if found is not None:
                        self._bound[(name, symbol)] = found

    def _unload(self, going):
        gone = {name: True for name in going}
        self._order = [name for name in self._order if name not in gone]
        self._scope = [name for name in self._scope if name not in gone]
        left = {}
        for name in self._order:
            left[name] = [other for other in self._local_scopes[name] if other not in gone]
        self._local_scopes = left
        self._bound = {use: self._bound[use] for use in self._bound if use[0] not in gone}

    def _search(self, name):
        return search_order(self.store[name], self._scope, self._local_scopes[name])

    def _needs(self):
        return {name: self.store[name].needs for name in self._order}

    def _leads(self):
        return leads_of(self._needs(), self._bound)

    def _roots(self, some):
        """Return the roots that are left when these handles are closed."""
        return self._fixed + [root for handle, root in self.handles() if handle not in some]


def want_symbol(thing):
    """Raise NoSymbol if thing, of any kind, is no symbol."""
    if not is_word(thing):
        raise NoSymbol(thing)


def is_number(thing):
    """Tell whether thing, of any kind, is an integer."""
    return isinstance(thing, int) and not isinstance(thing, bool)
