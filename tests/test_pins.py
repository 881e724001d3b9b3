"""[5.4]: the fewest bindings that keep a library, with as many chains; checked by the document's own words."""

import itertools
import random
import unittest

from scopebind.errors import NoHandle, NotLoaded
from scopebind.libraries import Library, Store
from scopebind.process import Process
from tests.chance import chance_process, chance_step, chance_store, taken
from tests.samples import Same, no_handles, no_words, process_kept, words


def reached(process, roots, without=(), bindings=True):
    """Return what the roots lead to, without these bound uses (or without any binding)."""
    found = list(dict.fromkeys(roots))
    for name in found:
        leads = list(process.store[name].needs)
        if bindings:
            leads += [use[2] for use in process.bindings() if use[0] == name and use[:2] not in without]
        found += [other for other in dict.fromkeys(leads) if other not in found]
    return found


class PinsCase(unittest.TestCase):
    def check_chain(self, process, roots, name, chain, taken_uses):
        """Check that a list is a chain, and note the bound uses that it takes."""
        bound = {use[:2]: use[2] for use in process.bindings()}
        self.assertIsInstance(chain, list)
        self.assertIn(chain[0], roots)
        self.assertEqual(chain[-1], name)
        row = [item for item in chain if isinstance(item, str)]
        self.assertEqual(len(set(row)), len(row))
        for at in range(1, len(chain)):
            one, other = chain[at - 1], chain[at]
            if isinstance(other, tuple):
                self.assertIsInstance(one, str)
                self.assertEqual(len(other), 1)
                self.assertEqual(bound[one, other[0]], chain[at + 1])
                taken_uses.append((one, other[0]))
            elif isinstance(one, str):
                self.assertIn(other, process.store[one].needs)

    def check(self, process, fixed, name, some):
        """Check an answer by its words; as many chains as the cut has uses prove that both are right."""
        kept = process_kept(process)
        roots = fixed + [root for handle, root in process.handles() if handle not in some]
        told = process.pins(name, some)
        self.assertEqual(process_kept(process), kept)
        if name in reached(process, roots, bindings=False):
            self.assertIsNone(told)
            return None
        self.assertIsInstance(told, tuple)
        cut, chains = told
        self.assertEqual([type(cut), type(chains)], [list, list])
        self.assertEqual(cut, sorted(set(cut)))
        self.assertLessEqual(set(cut), {use[:2] for use in process.bindings()})
        self.assertNotIn(name, reached(process, roots, without=cut))
        self.assertEqual(len(chains), len(cut))
        taken_uses = []
        for chain in chains:
            self.check_chain(process, roots, name, chain, taken_uses)
        self.assertEqual(len(set(taken_uses)), len(taken_uses))
        if name not in reached(process, roots):
            self.assertEqual(told, ([], []))
        return len(cut)


def fan():
    """Return a process whose main is bound to base by several uses, straight and through two others."""
    store = Store([
        Library("app", uses=("pa", "pb", "pc", "one", "two")),
        Library("one", needs=("mid",), defines=("one",), uses=("pa", "pb")), Library("mid", uses=("pd",)),
        Library("two", defines=("two",), uses=("pa",)), Library("base", defines=("pa", "pb", "pc", "pd")),
    ])
    process = Process(store, "app")
    for name in ["base", "one", "two"]:
        process.attach(name, spread=True)
    return process


class PinsTest(PinsCase):
    def test_examples(self):
        store = Store([
            Library("main", uses=("put", "get")), Library("core", needs=("base",), defines=("put", "get")),
            Library("base"),
        ])
        process = Process(store, "main")
        process.attach("core", spread=True)
        process.call("main", "put")
        self.assertEqual(process.pins("base", (1,)), ([("main", "put")], [["main", ("put",), "core", "base"]]))
        self.assertEqual(process.pins("core", (1,)), ([("main", "put")], [["main", ("put",), "core"]]))
        process.call("main", "get")
        self.assertEqual(self.check(process, ["main"], "base", (1,)), 2)

    def test_other_roots_and_their_needs(self):
        process = fan()
        for name in ["app", "base", "one", "mid", "two"]:
            self.assertIsNone(process.pins(name, ()))
        self.assertIsNone(process.pins("base", (2, 3)))
        self.assertIsNone(process.pins("mid", (1, 3)))
        self.assertIsNone(process.pins("app", (1, 2, 3)))

    def test_a_preload_is_another_root(self):
        store = Store([
            Library("app"), Library("pre", needs=("mid",), uses=("pa",)), Library("mid"), Library("base", defines=("pa",)),
        ])
        process = Process(store, "app", preloads=("pre",))
        process.attach("base", spread=True)
        process.call("pre", "pa")
        self.assertIsNone(process.pins("mid", (1,)))
        self.assertIsNone(process.pins("pre", (1,)))
        self.assertEqual(process.pins("base", (1,)), ([("pre", "pa")], [["pre", ("pa",), "base"]]))

    def test_nothing_else_holds_it(self):
        process = fan()
        for some in itertools.permutations([1, 2, 3]):
            for name in ["base", "one", "mid", "two"]:
                self.assertEqual(process.pins(name, some), ([], []))
        self.assertEqual(process.pins("two", (3,)), ([], []))
        self.assertEqual(process.pins("base", (1,)), ([], []))

    def test_a_second_handle_of_the_same_library(self):
        process = fan()
        process.attach("base")
        self.assertIsNone(process.pins("base", (1,)))
        self.assertEqual(process.pins("base", (4, 1)), ([], []))

    def test_several_uses_between_the_same_libraries(self):
        process = fan()
        for many, symbol in enumerate(["pa", "pb", "pc"], 1):
            process.call("app", symbol)
            cut, chains = process.pins("base", (1, 2, 3))
            self.assertEqual(cut, [("app", symbol) for symbol in ["pa", "pb", "pc"][:many]])
            self.assertEqual(sorted(chains), [["app", (symbol,), "base"] for symbol in ["pa", "pb", "pc"][:many]])

    def test_several_uses_lead_into_one_and_fewer_out_of_it(self):
        process = fan()
        for name, symbol in [("app", "one"), ("one", "pa"), ("one", "pb"), ("mid", "pd")]:
            process.call(name, symbol)
        self.assertEqual(process.pins("base", (1, 2, 3))[0], [("app", "one")])
        self.assertEqual(self.check(process, ["app"], "base", (1, 2, 3)), 1)
        self.assertEqual(self.check(process, ["app"], "base", (1, 3)), 3)
        self.assertEqual(process.pins("base", (1, 3))[0], [("mid", "pd"), ("one", "pa"), ("one", "pb")])

    def test_chains_share_needs_but_no_bound_use(self):
        store = Store([
            Library("app", uses=("x", "y")), Library("one", needs=("hub",), defines=("x",)),
            Library("two", needs=("hub",), defines=("y",)), Library("hub", needs=("out",)),
            Library("out", uses=("pa", "pb", "pc")), Library("base", defines=("pa", "pb", "pc")),
        ])
        process = Process(store, "app")
        for name in ["one", "two", "base"]:
            process.attach(name, spread=True)
        for name, symbol in [("app", "x"), ("app", "y"), ("out", "pa"), ("out", "pb"), ("out", "pc")]:
            process.call(name, symbol)
        self.assertEqual(process.pins("base", (1, 2, 3))[0], [("app", "x"), ("app", "y")])
        self.assertEqual(self.check(process, ["app"], "base", (1, 2, 3)), 2)
        self.assertEqual(self.check(process, ["app"], "base", (2, 3)), 3)

    def test_a_first_path_that_has_to_be_taken_back(self):
        # The shortest chain, by b and c, would block both others.
        store = Store([
            Library("app", uses=("b", "d")), Library("b", defines=("b",), uses=("c", "e")),
            Library("c", defines=("c",), uses=("goal",)), Library("d", defines=("d",), uses=("dd",)),
            Library("dd", defines=("dd",), uses=("c",)), Library("e", defines=("e",), uses=("ee",)),
            Library("ee", defines=("ee",), uses=("goal",)), Library("goal", defines=("goal",)),
        ])
        process = Process(store, "app")
        handles = tuple(process.attach(name, spread=True) for name in ["b", "c", "d", "dd", "e", "ee", "goal"])
        for name in ["app", "b", "c", "d", "dd", "e", "ee"]:
            for symbol in store[name].uses:
                process.call(name, symbol)
        self.assertEqual(self.check(process, ["app"], "goal", handles), 2)

    def test_a_binding_beside_a_need(self):
        store = Store([
            Library("app", uses=("pa",)), Library("one", needs=("base",), defines=("pa",), uses=("pb",)),
            Library("base", defines=("pb",)),
        ])
        process = Process(store, "app")
        process.attach("one", spread=True)
        process.call("app", "pa")
        process.call("one", "pb")
        self.assertEqual(process.pins("base", (1,))[0], [("app", "pa")])
        self.assertEqual(self.check(process, ["app"], "base", (1,)), 1)

    def test_rings_and_bindings_of_a_library_to_itself(self):
        store = Store([
            Library("app", uses=("pa", "pb")), Library("one", defines=("pa",), uses=("pa", "pb", "pc")),
            Library("two", needs=("three",), defines=("pb",), uses=("pa", "pb")),
            Library("three", needs=("two",), defines=("pc",), uses=("pa",)),
        ])
        process = Process(store, "app")
        handles = tuple(process.attach(name, spread=True) for name in ["one", "two", "three"])
        for name in ["app", "one", "two", "three"]:
            for symbol in store[name].uses:
                process.call(name, symbol)
        self.assertEqual(self.check(process, ["app"], "one", handles), 2)
        self.assertEqual(self.check(process, ["app"], "three", handles), 2)
        self.assertEqual(process.pins("one", handles)[0], [("app", "pa"), ("app", "pb")])

    def test_the_same_state_has_the_same_answer(self):
        first, second = fan(), fan()
        uses = [("app", "pa"), ("app", "pb"), ("app", "one"), ("one", "pa"), ("one", "pb"), ("mid", "pd"), ("app", "two")]
        for use in uses:
            first.call(*use)
        for use in reversed(uses):
            second.call(*use)
        for some in [(1,), (1, 2), (1, 2, 3), (3, 1), (2,)]:
            for name in first.loaded():
                self.assertEqual(first.pins(name, some), second.pins(name, some))
                self.assertEqual(first.pins(name, some), first.pins(name, some))
                self.assertEqual(first.copy().pins(name, some), first.pins(name, tuple(reversed(some))))

    def test_the_order_of_the_calls_leaves_no_trace(self):
        # Each of two ways, by b and by c, may be the one chain: the choice must not hang on the calls.
        store = Store([
            Library("app", uses=("b", "c")), Library("b", defines=("b",), uses=("d",)),
            Library("c", defines=("c",), uses=("d",)), Library("d", defines=("d",), uses=("goal",)),
            Library("goal", defines=("goal",)),
        ])
        uses = [("app", "b"), ("app", "c"), ("b", "d"), ("c", "d"), ("d", "goal")]
        told = []
        for some in itertools.permutations(uses):
            process = Process(store, "app")
            for name in ["b", "c", "d", "goal"]:
                process.attach(name, spread=True)
            for use in some:
                process.call(*use)
            self.assertEqual(self.check(process, ["app"], "goal", (1, 2, 3, 4)), 1)
            told.append(process.pins("goal", (1, 2, 3, 4)))
        self.assertEqual([answer for answer in told if answer != told[0]], [])

    def test_the_lists_are_new(self):
        process = fan()
        process.call("app", "pa")
        cut, chains = process.pins("base", (1,))
        cut.clear()
        chains[0].clear()
        chains.clear()
        empty = process.pins("two", (3,))
        empty[0].append(1)
        empty[1].append(1)
        self.assertEqual(process.pins("base", (1,)), ([("app", "pa")], [["app", ("pa",), "base"]]))
        self.assertEqual(process.pins("two", (3,)), ([], []))

    def test_errors(self):
        process = fan()
        process.detach(2)
        kept = process_kept(process)
        for at, thing in enumerate(no_words() + ["one", "mid", "zzz", Same("app")]):
            with self.subTest(at):
                for some in [(), (1,), (2,), None, thing, (thing,)]:
                    with self.assertRaises(NotLoaded) as caught:
                        process.pins(thing, some)
                    self.assertIs(caught.exception.name, thing)
        wrong = [thing for thing in no_handles() if isinstance(thing, bool) or not isinstance(thing, int)]
        for at, thing in enumerate(wrong + [0, 2, 4, -1]):
            with self.subTest(at):
                for some in [(thing,), (1, thing, 1), (thing, thing)]:
                    with self.assertRaises(NoHandle) as caught:
                        process.pins("base", some)
                    self.assertIs(caught.exception.handle, thing)
                if not isinstance(thing, tuple):
                    with self.assertRaises(NoHandle) as caught:
                        process.pins("base", thing)
                    self.assertIs(caught.exception.handle, thing)
        with self.assertRaises(NoHandle) as caught:
            process.pins("app", (3, 1, 3))
        self.assertEqual(caught.exception.handle, 3)
        self.assertEqual(process_kept(process), kept)


def start_and_steps(rng, store, steps):
    """Return a process after some steps, and its main and preloads: the roots when it started."""
    process = chance_process(rng, store, Process, 0)
    fixed = [name for name in process.loaded() if process.why(name) == [name]]
    for _ in range(steps):
        taken(process, chance_step(rng, store, process))
    return process, fixed


class ChanceTest(PinsCase):
    def test_small_processes(self):
        sizes = {}
        for seed in range(200):
            rng = random.Random(seed)
            store = chance_store(rng, 7, 5, needs=1, absent=0)
            process, fixed = start_and_steps(rng, store, 40)
            handles = [handle for handle, _ in process.handles()]
            for name in process.loaded():
                for many in [0, 1, len(handles) - 1, len(handles)]:
                    some = tuple(rng.sample(handles, max(0, min(many, len(handles)))))
                    size = self.check(process, fixed, name, some)
                    sizes[size] = sizes.get(size, 0) + 1
        # The lot has drawn cuts of several sizes, and each of the other answers.
        for size in [None, 0, 1, 2, 3]:
            self.assertGreater(sizes.get(size, 0), 5, sizes)

    def test_no_smaller_cut_in_small_processes(self):
        for seed in range(300, 340):
            rng = random.Random(seed)
            store = chance_store(rng, 6, 4, needs=1, absent=0, eager=0.6)
            process, fixed = start_and_steps(rng, store, 30)
            handles = tuple(handle for handle, _ in process.handles())
            uses = [use[:2] for use in process.bindings()]
            for name in process.loaded():
                told = process.pins(name, handles)
                if told is None or len(uses) > 12:
                    continue
                for many in range(len(told[0])):
                    for cut in itertools.combinations(uses, many):
                        self.assertIn(name, reached(process, fixed, without=cut))

    def test_forty_libraries_and_sixty_handles(self):
        for seed in range(3):
            rng = random.Random(seed)
            row, signs = words(40), words(60)[20:]
            libraries = []
            for at, name in enumerate(row):
                others = rng.sample([other for other in row if other != name], 2 if at % 3 else 0)
                libraries.append(Library(
                    name, needs=tuple(others) if seed else (), defines=tuple(rng.sample(signs, 3)),
                    uses=tuple(rng.sample(signs, 20)), eager=bool(at % 2), own_first=bool(at % 5 == 0),
                ))
            store = Store(libraries)
            process = Process(store, row[0])
            for at in range(60):
                process.attach(row[at % 40], spread=at % 3 == 0)
            for name in process.loaded():
                for symbol in store[name].uses:
                    if process.target(name, symbol) is not None:
                        process.call(name, symbol)
            handles = [handle for handle, _ in process.handles()]
            for name in process.loaded()[::5]:
                for some in [tuple(handles), tuple(handles[:50]), tuple(handles[1::2]), ()]:
                    self.check(process, [row[0]], name, some)


if __name__ == "__main__":
    unittest.main()
