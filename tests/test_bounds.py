"""[0.3] and the bounds of the document: 40 libraries, 12 needs, 20 symbols and 60 handles, each call soon answered."""

import random
import time
import unittest

from scopebind.libraries import Library, Store, names
from scopebind.preloads import least_preloads, meets
from scopebind.process import Process
from scopebind.targets import changers, run, upset
from tests.samples import words

ROW = words(40)
# Some symbols are defined everywhere and others nowhere, so that searches end late, too.
SIGNS = words(80)[40:]

# Many times what a call takes here, and far less than a search over all paths or sets would.
SECONDS = 5


def big_store(seed, needs=12, eager=False):
    """Return a store of forty libraries, each with so many needs, twenty symbols defined and twenty used."""
    rng = random.Random(seed)
    libraries = []
    for at, name in enumerate(ROW):
        others = [other for other in ROW if other != name]
        libraries.append(Library(
            name, needs=tuple(rng.sample(others, needs)), defines=tuple(rng.sample(SIGNS[:30], 20)),
            uses=tuple(rng.sample(SIGNS, 20)), weak=(), eager=eager, own_first=at % 2 == 0,
        ))
    return Store(libraries)


class BoundsTest(unittest.TestCase):
    def soon(self, ask, *rest, **more):
        start = time.perf_counter()
        told = ask(*rest, **more)
        self.assertLess(time.perf_counter() - start, SECONDS, ask)
        return told

    def ask_all(self, process):
        """Ask everything of a process."""
        store = process.store
        handles = tuple(handle for handle, _ in process.handles())
        for ask in [process.scope, process.order, process.loaded, process.bindings, process.handles, process.copy]:
            self.soon(ask)
        for name in process.loaded()[::4]:
            for ask in [process.local, process.why, process.holders]:
                self.soon(ask, name)
            for some in [(), handles, handles[:30], handles[::2]]:
                self.soon(process.pins, name, some)
                self.soon(process.goes, some)
            for symbol in store[name].uses[::5]:
                for ask in [process.target, process.after]:
                    self.soon(ask, name, symbol)
                self.soon(changers, process, name, symbol)
                steps = self.soon(upset, process, name, symbol)
                if steps is not None:
                    twin = process.copy()
                    self.soon(run, twin, steps)
                    self.assertNotEqual(twin.target(name, symbol), process.target(name, symbol))
        for handle in (0,) + handles[::6]:
            self.soon(process.find, handle, SIGNS[-1])

    def fill(self, process):
        for at in range(60):
            self.soon(process.attach, ROW[at % 40], spread=at % 3 == 0)
        for name in process.loaded():
            for symbol in process.store[name].uses:
                if process.target(name, symbol) is not None and (len(symbol) + ROW.index(name)) % 3:
                    self.soon(process.call, name, symbol)

    def empty(self, process):
        for handle, _ in process.handles():
            self.soon(process.detach, handle)
        self.assertEqual([process.handles(), process.holders(process.loaded()[0])], [[], None])

    def test_all_need_all(self):
        for eager in [False, True]:
            process = self.soon(Process, big_store(1, eager=eager), ROW[0], preloads=ROW[1:20])
            self.fill(process)
            self.ask_all(process)
            self.empty(process)
            self.assertEqual(len(process), 40)

    def test_none_needs_any(self):
        for eager in [False, True]:
            process = self.soon(Process, big_store(2, needs=0, eager=eager), ROW[0], preloads=ROW[1:3])
            self.fill(process)
            self.assertEqual(len(process), 40)
            self.ask_all(process)
            self.empty(process)

    def test_few_needs(self):
        process = self.soon(Process, big_store(3, needs=1), ROW[0])
        self.fill(process)
        self.ask_all(process)
        self.empty(process)

    def test_a_ladder_with_very_many_paths(self):
        # Two libraries a rung, each of which needs both of the next rung: a path for each choice.
        needs = {}
        for at in range(0, 40, 2):
            needs[ROW[at]] = needs[ROW[at + 1]] = ROW[at + 2:at + 4]
        store = Store([Library(name, needs=needs[name]) for name in ROW])
        process = self.soon(Process, store, ROW[0])
        self.assertEqual(self.soon(process.why, ROW[39]), list(ROW[0:38:2]) + [ROW[39]])
        store = Store([Library(name, defines=(name,), uses=needs[name], eager=True) for name in ROW])
        process = Process(store, ROW[0])
        for name in reversed(ROW[1:]):
            process.attach(name, spread=True)
        process.call(ROW[0], ROW[2])
        handles = tuple(range(1, 40))
        self.assertEqual(len(self.soon(process.pins, ROW[39], handles)[0]), 1)
        self.ask_all(process)

    def test_preloads(self):
        store = big_store(4, needs=0)
        for seed in range(20):
            rng = random.Random(seed)
            wishes = {symbol: rng.choice(names(store)) for symbol in rng.sample(SIGNS, 20)}
            self.soon(least_preloads, store, ROW[0], wishes)
            defined = {
                symbol: rng.choice([name for name in names(store) if symbol in store[name].defines])
                for symbol in SIGNS[:30] if symbol not in store[ROW[0]].defines
            }
            self.assertIn(self.soon(least_preloads, store, ROW[0], defined)[0], ["order", "ring"])
            self.assertIs(self.soon(meets, Process(store, ROW[0]), defined), False)


if __name__ == "__main__":
    unittest.main()
