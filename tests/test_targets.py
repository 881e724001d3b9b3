"""[6.1] to [6.3]: which openings change a target, steps, and whether a target can ever change."""

import random
import unittest

from scopebind.errors import LoadError, Missing, NoHandle, NoName, NoSymbol, NotLoaded, NotUsed, Unresolved
from scopebind.libraries import Library, Store, names
from scopebind.process import Process
from scopebind.targets import changers, run, upset
from tests.chance import chance_process, chance_store
from tests.samples import Same, example_store, no_words, process_kept, words


def uses_of(process):
    return [(name, symbol) for name in process.loaded() for symbol in process.store[name].uses]


def is_bound(process, use):
    return use in [bound[:2] for bound in process.bindings()]


def changers_by_trying(process, use):
    """Return the names whose opening with spread in a copy succeeds and changes the target."""
    found = []
    for name in names(process.store):
        twin = process.copy()
        try:
            twin.attach(name, spread=True)
        except Missing:
            continue
        if twin.target(*use) != process.target(*use):
            found.append(name)
    return found


def key_of(process):
    """Return what counts of a state for later targets: the numbers of the handles do not."""
    row = process.loaded()
    return (
        tuple(process.scope()), tuple(tuple(process.local(name)) for name in row), tuple(row),
        tuple(process.bindings()), tuple(sorted(name for _, name in process.handles())),
    )


def next_steps(process, use, most):
    """Return the steps that may be taken in this state without calling the use."""
    steps = [("call", *other) for other in uses_of(process) if other != use]
    found = {}
    for handle, name in process.handles():
        found[name] = handle
    steps += [("detach", found[name]) for name in found]
    if len(process.handles()) < most:
        steps += [("attach", name, spread) for name in names(process.store) for spread in [False, True]]
    return steps


def changes_state_by_state(process, use, more, limit=4000):
    """Go through all states that steps lead to, with so many more handles; tell whether the target ever changes.

    None: there are too many states to tell.
    """
    now = process.target(*use)
    most = len(process.handles()) + more
    seen = {key_of(process)}
    row = [process]
    for state in row:
        for step in next_steps(state, use, most):
            twin = state.copy()
            try:
                run(twin, [step])
            except LoadError:
                continue
            if use[0] not in twin or key_of(twin) in seen:
                continue
            if twin.target(*use) != now:
                return True
            seen.add(key_of(twin))
            row.append(twin)
            if len(row) > limit:
                return None
    return False


class UpsetCase(unittest.TestCase):
    def check(self, process, name, symbol):
        """Ask upset and check what it returns; return whether it returned steps."""
        kept = process_kept(process)
        steps = upset(process, name, symbol)
        self.assertEqual(process_kept(process), kept)
        self.assertEqual(upset(process, name, symbol), steps)
        if steps is None:
            return False
        self.assertIsInstance(steps, list)
        self.assertLessEqual(len(steps), 70)
        self.assertNotIn(("call", name, symbol), steps)
        twin = process.copy()
        for step in steps:
            self.assertIn((step[0], len(step)), [("attach", 3), ("detach", 2), ("call", 3)])
            gone = run(twin, [step])
            self.assertIn(name, twin)
            if step[0] == "detach":
                self.assertNotIn(name, gone[0])
            self.assertLessEqual(len(twin.handles()), 61)
        self.assertNotEqual(twin.target(name, symbol), process.target(name, symbol))
        return True


class ChangersTest(unittest.TestCase):
    def test_a_use_without_a_target(self):
        process = Process(example_store(), "app")
        process.attach("extra")
        self.assertEqual(changers(process, "extra", "log"), ["log"])
        self.assertEqual(changers(process, "app", "put"), [])

    def test_all_whose_closure_brings_a_definer(self):
        store = Store([
            Library("app", uses=("put",)), Library("z", defines=("put",)), Library("m", needs=("z",)),
            Library("a", needs=("m",)), Library("bad", needs=("absent",), defines=("put",)),
            Library("worse", needs=("z", "bad")), Library("none"),
        ])
        process = Process(store, "app")
        self.assertEqual(changers(process, "app", "put"), ["a", "m", "z"])
        process.attach("a")
        self.assertEqual(changers(process, "app", "put"), ["a", "m", "z"])

    def test_a_target_in_the_local_scope_alone(self):
        store = Store([
            Library("app"), Library("one", needs=("own",), uses=("put",)), Library("own", defines=("put",)),
            Library("x", needs=("own", "y")), Library("y", defines=("put",)), Library("w", needs=("y", "own")),
        ])
        process = Process(store, "app")
        process.attach("one")
        # What appends the target itself first changes nothing.
        self.assertEqual(changers(process, "one", "put"), ["w", "y"])
        process.attach("own", spread=True)
        self.assertEqual(changers(process, "one", "put"), [])

    def test_main_and_loaded_libraries_count_as_well(self):
        store = Store([
            Library("app", needs=("core",)), Library("core"), Library("one", uses=("put", "get"), weak=("put",)),
            Library("pre", needs=("low",)), Library("low", defines=("put",)),
        ])
        process = Process(store, "app", preloads=("pre",))
        process.attach("one")
        self.assertEqual(process.scope(), ["app", "pre", "core"])
        self.assertEqual(changers(process, "one", "put"), ["low", "pre"])
        self.assertEqual(changers(process, "one", "get"), [])
        store = Store([
            Library("app", needs=("mid",), uses=("put",)), Library("mid"),
            Library("low", needs=("app",), defines=("put",)),
        ])
        self.assertEqual(changers(Process(store, "app"), "app", "put"), ["low"])

    def test_to_open_main_brings_what_main_needs(self):
        store = Store([
            Library("app", needs=("user", "core"), defines=("get",)), Library("core", defines=("put",)),
            Library("user", uses=("put", "get", "log")), Library("pre", needs=("log",)), Library("log", defines=("log",)),
        ])
        process = Process(store, "app", preloads=("pre",))
        self.assertEqual([changers(process, "user", symbol) for symbol in ["put", "get", "log"]],
                         [[], [], ["log", "pre"]])

    def test_own_first(self):
        store = Store([
            Library("app"), Library("one", needs=("own",), uses=("put", "get"), own_first=True),
            Library("own", defines=("put",)), Library("x", defines=("put", "get")), Library("y", defines=("get",)),
        ])
        process = Process(store, "app")
        process.attach("one")
        self.assertEqual([changers(process, "one", "put"), changers(process, "one", "get")], [[], ["x", "y"]])
        process.attach("y", spread=True)
        self.assertEqual(changers(process, "one", "get"), [])

    def test_a_bound_use_has_none(self):
        store = Store([
            Library("app"), Library("one", needs=("own",), uses=("put",)), Library("own", defines=("put",)),
            Library("x", defines=("put",)),
        ])
        process = Process(store, "app")
        process.attach("one")
        self.assertEqual(changers(process, "one", "put"), ["x"])
        process.call("one", "put")
        self.assertEqual(changers(process, "one", "put"), [])

    def test_against_attaching_in_copies(self):
        told = {0: 0, 1: 0, 2: 0}
        for seed in range(150):
            rng = random.Random(seed)
            process = chance_process(rng, chance_store(rng, 8, 5), Process, 10)
            if process is None:
                continue
            kept = process_kept(process)
            for use in uses_of(process):
                found = changers(process, *use)
                self.assertEqual(found, changers_by_trying(process, use))
                told[min(2, len(found))] += 1
            self.assertEqual(process_kept(process), kept)
        self.assertGreater(min(told.values()), 10)

    def test_errors(self):
        process = Process(example_store(), "app")
        process.attach("extra")
        kept = process_kept(process)
        for ask in [changers, upset]:
            for at, thing in enumerate(no_words()):
                with self.subTest(at):
                    for symbol in ["put", "zzz", thing]:
                        with self.assertRaises(NotLoaded) as caught:
                            ask(process, thing, symbol)
                        self.assertIs(caught.exception.name, thing)
                    with self.assertRaises(NotLoaded):
                        ask(process, "log", thing)
                    with self.assertRaises(NoSymbol) as caught:
                        ask(process, "core", thing)
                    self.assertIs(caught.exception.symbol, thing)
            with self.assertRaises(NotLoaded):
                ask(process, Same("app"), "put")
            for name, symbol in [("app", "log"), ("core", "put"), ("extra", "get"), ("app", "zzz")]:
                with self.assertRaises(NotUsed) as caught:
                    ask(process, name, symbol)
                self.assertEqual(caught.exception.symbol, symbol)
        self.assertEqual(process_kept(process), kept)

    def test_the_list_is_new(self):
        process = Process(example_store(), "app")
        process.attach("extra")
        changers(process, "extra", "log").clear()
        upset(process, "extra", "log").clear()
        self.assertEqual(changers(process, "extra", "log"), ["log"])
        self.assertEqual(upset(process, "extra", "log"), [("attach", "log", True)])


class RunTest(unittest.TestCase):
    def test_what_the_steps_return(self):
        process = Process(example_store(), "app")
        steps = [
            ("attach", "extra", False), ("call", "extra", "log"), ("attach", "log", True), ("call", "extra", "log"),
            ("detach", 2), ("detach", 1), ("attach", "log", False),
        ]
        self.assertEqual(run(process, steps), [1, None, 2, "log", [], ["log", "extra"], 3])
        self.assertEqual([process.handles(), process.scope()], [[(3, "log")], ["app", "ui", "core"]])
        self.assertEqual(len(steps), 7)

    def test_no_steps(self):
        process = Process(example_store(), "app")
        kept = process_kept(process)
        self.assertEqual(run(process, []), [])
        self.assertEqual(process_kept(process), kept)

    def test_spread_is_passed_on(self):
        process = Process(example_store(), "app")
        run(process, [("attach", "log", False)])
        self.assertEqual(process.scope(), ["app", "ui", "core"])
        run(process, [("attach", "log", True)])
        self.assertEqual(process.scope(), ["app", "ui", "core", "log"])

    def test_a_step_fails_in_the_middle(self):
        store = Store([
            Library("app", uses=("put", "log")), Library("one", defines=("put",)), Library("bad", needs=("absent",)),
        ])
        failing = [
            (("attach", "zzz", True), NoName), (("attach", "bad", True), Missing), (("detach", 9), NoHandle),
            (("detach", 0), NoHandle), (("call", "zzz", "put"), NotLoaded), (("call", "app", ""), NoSymbol),
            (("call", "one", "put"), NotUsed), (("call", "app", "log"), Unresolved), (("attach", [], False), NoName),
        ]
        for step, error in failing:
            with self.subTest(str(step)):
                process = Process(store, "app")
                with self.assertRaises(error):
                    run(process, [("attach", "one", True), ("call", "app", "put"), step, ("detach", 1)])
                self.assertEqual(process.handles(), [(1, "one")])
                self.assertEqual(process.bindings(), [("app", "put", "one")])
                self.assertEqual(process.scope(), ["app", "one"])


class UpsetTest(UpsetCase):
    def test_a_bound_use_never_changes(self):
        process = Process(example_store(), "app")
        process.attach("log", spread=True)
        process.attach("extra")
        process.call("extra", "log")
        process.call("app", "put")
        self.assertIsNone(upset(process, "extra", "log"))
        self.assertIsNone(upset(process, "app", "put"))

    def test_a_use_without_a_target(self):
        process = Process(example_store(), "app")
        process.attach("extra")
        self.assertTrue(self.check(process, "extra", "log"))
        store = Store([
            Library("app", uses=("put", "get")), Library("bad", needs=("absent",), defines=("put",)),
            Library("one", needs=("two",)), Library("two", needs=("one",), defines=("get",)),
        ])
        process = Process(store, "app")
        self.assertFalse(self.check(process, "app", "put"))
        self.assertTrue(self.check(process, "app", "get"))
        process.attach("one")
        self.assertTrue(self.check(process, "app", "get"))

    def test_what_main_or_a_preload_holds_never_changes(self):
        process = Process(example_store(), "app", preloads=("extra",))
        self.assertFalse(self.check(process, "app", "put"))
        self.assertFalse(self.check(process, "app", "get"))
        process.attach("log", spread=True)
        self.assertTrue(self.check(process, "extra", "log"))
        store = Store([
            Library("app", uses=("one", "put")), Library("one", needs=("two",), defines=("one",)),
            Library("two", defines=("put",)),
        ])
        process = Process(store, "app")
        process.attach("one", spread=True)
        self.assertTrue(self.check(process, "app", "put"))
        process.call("app", "one")
        self.assertFalse(self.check(process, "app", "put"))

    def test_what_only_handles_hold(self):
        store = Store([
            Library("app", uses=("put",)), Library("one", needs=("low",)), Library("two", uses=("low",)),
            Library("low", defines=("put", "low")),
        ])
        process = Process(store, "app")
        process.attach("one", spread=True)
        process.attach("two")
        process.attach("low")
        process.attach("one")
        process.attach("two")
        process.call("two", "low")
        self.assertTrue(self.check(process, "app", "put"))
        self.assertTrue(self.check(process, "app", "put"))

    def test_a_library_that_falls_with_its_target_unless_it_is_held(self):
        store = Store([
            Library("app"), Library("top", needs=("user", "low")), Library("user", uses=("put",), own_first=True),
            Library("low", defines=("put",)), Library("other", defines=("put",)),
        ])
        process = Process(store, "app")
        process.attach("top")
        self.assertEqual(process.target("user", "put"), "low")
        self.assertEqual(changers(process, "user", "put"), [])
        self.assertTrue(self.check(process, "user", "put"))

    def test_a_library_that_leads_to_its_target(self):
        store = Store([
            Library("app"), Library("user", needs=("low",), uses=("put",), own_first=True),
            Library("low", defines=("put",)), Library("other", defines=("put",)),
            Library("plain", needs=("low",), uses=("put",)),
            Library("self", defines=("put",), uses=("put",), own_first=True),
            Library("by", uses=("low", "say"), own_first=True), Library("bring", needs=("by", "mid")),
            Library("mid", needs=("end",), defines=("low",)), Library("end", defines=("say",)),
        ])
        process = Process(store, "app")
        for name in ["user", "plain", "self", "bring"]:
            process.attach(name)
        self.assertFalse(self.check(process, "user", "put"))
        self.assertFalse(self.check(process, "self", "put"))
        self.assertTrue(self.check(process, "plain", "put"))
        self.assertTrue(self.check(process, "by", "say"))
        process.call("by", "low")
        self.assertFalse(self.check(process, "by", "say"))
        process.attach("plain", spread=True)
        self.assertFalse(self.check(process, "plain", "put"))

    def test_the_only_definer_may_go(self):
        store = Store([
            Library("app"), Library("top", needs=("user", "low")), Library("user", uses=("put",)),
            Library("low", defines=("put",)), Library("bad", needs=("absent",), defines=("put",)),
        ])
        process = Process(store, "app")
        process.attach("top")
        self.assertEqual(changers(process, "user", "put"), [])
        self.assertTrue(self.check(process, "user", "put"))

    def test_sixty_handles(self):
        row = words(20)
        libraries = [Library("app", uses=("put",)), Library("user", uses=("put", "get"), own_first=True)]
        libraries += [Library(name, needs=("low", "user")) for name in row]
        store = Store(libraries + [Library("low", defines=("put", "get"))])
        process = Process(store, "app")
        for at in range(60):
            process.attach(row[at % 20], spread=at == 0)
        self.assertEqual(process.target("app", "put"), "low")
        for use in uses_of(process):
            self.assertTrue(self.check(process, *use))
        process = Process(store, "app")
        for at in range(59):
            process.attach("low", spread=at == 58)
        process.attach("user", spread=True)
        for use in uses_of(process):
            self.assertTrue(self.check(process, *use))

    def test_forty_libraries_and_sixty_handles(self):
        for seed in range(3):
            rng = random.Random(seed)
            row, signs = words(40), words(60)[20:]
            libraries = []
            for at, name in enumerate(row):
                needs = rng.sample(row[at + 1:], min(len(row) - at - 1, 3)) if at % 2 else []
                libraries.append(Library(
                    name, needs=tuple(needs), defines=tuple(rng.sample(signs, 8)), uses=tuple(rng.sample(signs, 20)),
                    eager=at % 7 == 3, own_first=at % 4 == 1,
                ))
            process = Process(Store(libraries), row[0])
            for at in range(60):
                process.attach(row[(at * 7) % 40], spread=at % 3 == 0)
            told = [self.check(process, *use) for use in rng.sample(uses_of(process), 60)]
            self.assertIn(True, told)
            self.assertIn(False, told)

    def test_small_stores_state_by_state(self):
        told = {"stays": 0, "by opening": 0, "by closing": 0}
        for seed in range(160):
            rng = random.Random(seed)
            store = chance_store(rng, rng.choice([3, 4, 5]), rng.choice([1, 2, 3]), needs=2, own_first=0.5, eager=0.1)
            process = chance_process(rng, store, Process, 6)
            if process is None or len(process.handles()) > 3:
                continue
            for use in uses_of(process):
                changes = self.check(process, *use)
                known = changes_state_by_state(process, use, 1, limit=400)
                if known is not None:
                    self.assertEqual(changes, known, f"{seed} {use}")
                    last = upset(process, *use)[-1][0] if changes else None
                    told[{None: "stays", "attach": "by opening", "detach": "by closing"}[last]] += 1
        self.assertGreater(min(told.values()), 5, told)

    def test_larger_stores_step_by_step(self):
        for seed in range(200):
            rng = random.Random(seed)
            process = chance_process(rng, chance_store(rng, 9, 4), Process, 15)
            if process is None:
                continue
            for use in uses_of(process):
                self.check(process, *use)


if __name__ == "__main__":
    unittest.main()
