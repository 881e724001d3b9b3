"""A process told in the plainest way, to compare the real one with: everything is asked path by path."""

from scopebind.closures import closure
from scopebind.errors import NoHandle, NotLoaded, NotUsed, Unresolved


class Model:
    """What DOC.md says of a process, word for word and without any haste."""

    def __init__(self, store, main, preloads=()):
        self.store = store
        self.fixed = [main] + list(preloads)
        parts = [closure(store, name) for name in self.fixed]
        self.globally = self.fixed + [name for name in parts[0] if name not in self.fixed]
        self.locally = {}
        self.row = []
        self.bound = {}
        self.opened = {}
        self.count = 0
        fresh = []
        for part in parts:
            fresh += self.load(part)
        self.bind_eager(fresh)

    def load(self, part):
        fresh = [name for name in part if name not in self.locally]
        visited = list(self.row)

        def visit(name):
            if name not in visited:
                visited.append(name)
                for need in self.store[name].needs:
                    visit(need)
                self.row.append(name)

        visit(part[0])
        for name in fresh:
            self.locally[name] = list(part)
        return fresh

    def bind_eager(self, fresh):
        for name in fresh:
            if self.store[name].eager:
                for symbol in self.store[name].uses:
                    if self.target(name, symbol) is not None:
                        self.bound[name, symbol] = self.target(name, symbol)

    def search(self, name):
        both = self.globally + self.locally[name]
        if self.store[name].own_first:
            both = self.locally[name] + self.globally
        return [other for at, other in enumerate(both) if other not in both[:at]]

    def first(self, some, symbol):
        found = [name for name in some if symbol in self.store[name].defines]
        return found[0] if found else None

    def target(self, name, symbol):
        if name not in self.locally:
            raise NotLoaded(name)
        if symbol not in self.store[name].uses:
            raise NotUsed(symbol)
        if (name, symbol) in self.bound:
            return self.bound[name, symbol]
        return self.first(self.search(name), symbol)

    def call(self, name, symbol):
        found = self.target(name, symbol)
        if found is None and symbol not in self.store[name].weak:
            raise Unresolved((name, symbol))
        if found is not None:
            self.bound[name, symbol] = found
        return found

    def after(self, name, symbol):
        order = self.search(name)
        return self.first(order[order.index(name) + 1:], symbol)

    def find(self, handle, symbol):
        return self.first(self.globally if handle == 0 else closure(self.store, self.opened[handle]), symbol)

    def attach(self, name, spread=False):
        part = closure(self.store, name)
        fresh = self.load(part)
        if spread:
            self.globally += [other for other in part if other not in self.globally]
        self.bind_eager(fresh)
        self.count += 1
        self.opened[self.count] = name
        return self.count

    def leads(self, name):
        found = list(self.store[name].needs)
        return found + [self.bound[use] for use in self.bound if use[0] == name]

    def roots(self, closed=()):
        return self.fixed + [self.opened[handle] for handle in self.opened if handle not in closed]

    def held(self, roots):
        found = list(roots)
        for name in found:
            found += [other for other in self.leads(name) if other not in found]
        return found

    def goes(self, some):
        kept = self.held(self.roots(some))
        return [name for name in reversed(self.row) if name not in kept]

    def detach(self, handle):
        if handle not in self.opened:
            raise NoHandle(handle)
        going = self.goes((handle,))
        del self.opened[handle]
        for name in going:
            self.row.remove(name)
            del self.locally[name]
            for some in [self.globally] + list(self.locally.values()):
                if name in some:
                    some.remove(name)
            self.bound = {use: other for use, other in self.bound.items() if use[0] != name}
        return going

    def paths(self, name):
        """Return all paths without repetition from a root to the library."""
        found = []

        def walk(path):
            if path[-1] == name:
                found.append(path)
                return
            for other in self.leads(path[-1]):
                if other not in path:
                    walk(path + [other])

        for root in self.roots():
            walk([root])
        return found

    def why(self, name):
        return min(self.paths(name), key=lambda path: (len(path), path))

    def holders(self, name):
        if name in self.held(self.fixed):
            return None
        return [handle for handle in sorted(self.opened) if name in self.held([self.opened[handle]])]


def state_of(process):
    """Return all that a process tells of its state, by its own methods."""
    store = process.store
    uses = [(name, symbol) for name in process.loaded() for symbol in store[name].uses]
    return {
        "scope": process.scope(),
        "order": process.order(),
        "loaded": process.loaded(),
        "len": len(process),
        "locals": {name: process.local(name) for name in process.loaded()},
        "bindings": process.bindings(),
        "handles": process.handles(),
        "targets": {use: process.target(*use) for use in uses},
        "why": {name: process.why(name) for name in process.loaded()},
        "holders": {name: process.holders(name) for name in process.loaded()},
    }


def state_of_model(model):
    """Return the same of a model."""
    uses = [(name, symbol) for name in model.row for symbol in model.store[name].uses]
    return {
        "scope": model.globally,
        "order": model.row,
        "loaded": sorted(model.row),
        "len": len(model.row),
        "locals": {name: model.locally[name] for name in model.row},
        "bindings": sorted((*use, model.bound[use]) for use in model.bound),
        "handles": sorted(model.opened.items()),
        "targets": {use: model.target(*use) for use in uses},
        "why": {name: model.why(name) for name in model.row},
        "holders": {name: model.holders(name) for name in model.row},
    }
