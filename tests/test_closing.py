"""[5.1] to [5.3]: handles that are closed, what is unloaded then, and what holds a library."""

import itertools
import unittest

from scopebind.errors import NoHandle, NotLoaded
from scopebind.libraries import Library, Store
from scopebind.process import Process
from tests.samples import Same, example_store, no_handles, no_words, process_kept, store_of


def bare(thing):
    """Tell whether thing can be a handle at all: an integer that is no bool."""
    return isinstance(thing, int) and not isinstance(thing, bool)


def bound_row():
    """Return a process with handles for one (1), two (2), three (3) and a ring (4); one is bound to two, this to three.

    The process has also called the use of main, whose target is the ring's first library.
    """
    store = Store([
        Library("app", uses=("ring",)), Library("one", uses=("put",)), Library("two", defines=("put",), uses=("get",)),
        Library("three", needs=("base",), defines=("get",)), Library("base"),
        Library("x", needs=("y",), defines=("ring",)), Library("y", needs=("z",)), Library("z", needs=("x",)),
    ])
    process = Process(store, "app")
    for name in ["one", "two", "three", "x"]:
        process.attach(name, spread=True)
    process.call("one", "put")
    process.call("two", "get")
    return process


class DetachTest(unittest.TestCase):
    def test_examples(self):
        process = Process(example_store(), "app")
        one, two = process.attach("log", spread=True), process.attach("extra")
        process.call("extra", "log")
        self.assertEqual(process.detach(one), [])
        self.assertEqual(process.detach(two), ["extra", "log"])
        self.assertEqual([process.loaded(), process.handles(), process.bindings()], [["app", "core", "ui"], [], []])

    def test_what_main_or_a_preload_needs_stays(self):
        process = Process(example_store(), "app", preloads=("log",))
        handles = [process.attach(name) for name in ["core", "log", "app", "ui"]]
        self.assertEqual([process.detach(handle) for handle in handles], [[], [], [], []])
        self.assertEqual(len(process), 4)

    def test_the_reverse_of_the_order_of_initialization(self):
        store = store_of({"app": (), "a": ("c", "b"), "b": ("d",), "c": ("e",), "d": (), "e": ("a", "d")})
        process = Process(store, "app")
        process.attach("a")
        self.assertEqual(process.order(), ["app", "d", "e", "c", "b", "a"])
        self.assertEqual(process.detach(1), ["a", "b", "c", "e", "d"])
        process.attach("b")
        process.attach("e")
        self.assertEqual(process.order(), ["app", "d", "b", "c", "a", "e"])
        self.assertEqual(process.detach(2), [])
        self.assertEqual(process.detach(3), ["e", "a", "c", "b", "d"])

    def test_in_every_order(self):
        gone = {}
        for some in itertools.permutations([1, 2, 3, 4]):
            process = bound_row()
            parts = {}
            for handle in some:
                parts[handle] = process.detach(handle)
            self.assertEqual(process.loaded(), ["app"])
            gone[some] = parts
        self.assertEqual(gone[1, 2, 3, 4], {1: ["one"], 2: ["two"], 3: ["three", "base"], 4: ["x", "y", "z"]})
        self.assertEqual(gone[3, 2, 4, 1], {3: [], 2: [], 4: ["x", "y", "z"], 1: ["three", "base", "two", "one"]})
        self.assertEqual(gone[2, 1, 4, 3], {2: [], 1: ["two", "one"], 4: ["x", "y", "z"], 3: ["three", "base"]})

    def test_two_handles_of_one_library(self):
        process = Process(example_store(), "app")
        process.attach("log")
        process.attach("log")
        self.assertEqual([process.detach(1), process.detach(2)], [[], ["log"]])

    def test_a_binding_of_main_keeps_its_target_for_ever(self):
        process = bound_row()
        process.call("app", "ring")
        self.assertEqual(process.detach(4), [])
        self.assertIsNone(process.holders("x"))
        self.assertEqual(process.scope()[-3:], ["x", "y", "z"])

    def test_a_ring_of_bindings_holds_nothing(self):
        store = Store([
            Library("app"), Library("one", defines=("put",), uses=("get", "put")),
            Library("two", defines=("get",), uses=("put",)),
        ])
        process = Process(store, "app")
        process.attach("one", spread=True)
        process.attach("two", spread=True)
        for name, symbol in [("one", "get"), ("two", "put"), ("one", "put")]:
            process.call(name, symbol)
        self.assertEqual(process.detach(1), [])
        self.assertEqual(process.detach(2), ["two", "one"])
        self.assertEqual([process.bindings(), process.scope()], [[], ["app"]])

    def test_unloaded_libraries_leave_all_scopes(self):
        store = store_of({"app": (), "one": ("two", "three"), "two": ("four",), "three": (), "four": ()})
        process = Process(store, "app")
        process.attach("one", spread=True)
        process.attach("four")
        process.attach("three")
        self.assertEqual(process.detach(1), ["one", "two"])
        self.assertEqual(process.scope(), ["app", "three", "four"])
        self.assertEqual([process.local("three"), process.local("four")], [["three", "four"]] * 2)

    def test_a_library_that_is_loaded_again_does_not_return_to_scopes(self):
        store = store_of({"app": (), "one": ("two", "three"), "two": ("four",), "three": (), "four": ()})
        process = Process(store, "app")
        process.attach("one", spread=True)
        process.attach("three")
        process.detach(1)
        process.attach("one")
        self.assertEqual(process.scope(), ["app", "three"])
        self.assertEqual(process.local("three"), ["three"])
        self.assertEqual([process.local(name) for name in ["one", "two", "four"]], [["one", "two", "three", "four"]] * 3)
        self.assertEqual(process.order(), ["app", "three", "four", "two", "one"])
        process.attach("one", spread=True)
        self.assertEqual(process.scope(), ["app", "three", "one", "two", "four"])
        self.assertEqual(process.local("three"), ["three"])

    def test_targets_change_when_the_first_definer_is_unloaded(self):
        store = Store([
            Library("app", uses=("put",)), Library("one", defines=("put",)), Library("two", defines=("put",)),
        ])
        process = Process(store, "app")
        process.attach("one", spread=True)
        process.attach("two", spread=True)
        self.assertEqual(process.target("app", "put"), "one")
        process.detach(1)
        self.assertEqual(process.target("app", "put"), "two")
        process.attach("one", spread=True)
        self.assertEqual(process.target("app", "put"), "two")
        process.detach(2)
        self.assertEqual(process.target("app", "put"), "one")

    def test_no_handle(self):
        process = bound_row()
        process.detach(1)
        kept = process_kept(process)
        things = [thing for thing in no_handles() if not bare(thing)]
        for at, thing in enumerate(things + [0, 1, 5, -1, 10 ** 30]):
            with self.subTest(at):
                with self.assertRaises(NoHandle) as caught:
                    process.detach(thing)
                self.assertIs(caught.exception.handle, thing)
        self.assertEqual(process_kept(process), kept)
        process.detach(4)
        with self.assertRaises(NoHandle):
            process.detach(4)

    def test_a_bool_is_no_handle(self):
        process = Process(example_store(), "app")
        process.attach("log")
        with self.assertRaises(NoHandle) as caught:
            process.detach(True)
        self.assertIs(caught.exception.handle, True)
        self.assertEqual(process.handles(), [(1, "log")])

    def test_the_list_is_new(self):
        process = bound_row()
        told = process.detach(4)
        told.append("app")
        self.assertEqual(process.loaded(), ["app", "base", "one", "three", "two"])


class WhyTest(unittest.TestCase):
    def test_roots_hold_themselves(self):
        process = Process(example_store(), "app", preloads=("log",))
        process.attach("core")
        for name in ["app", "log", "core"]:
            self.assertEqual(process.why(name), [name])
        self.assertEqual(process.why("ui"), ["app", "ui"])

    def test_a_shortest_path(self):
        store = store_of({"app": ("a",), "a": ("b",), "b": ("c",), "c": ("d",), "d": (), "z": ("c",)})
        process = Process(store, "app")
        self.assertEqual(process.why("d"), ["app", "a", "b", "c", "d"])
        process.attach("z")
        self.assertEqual(process.why("d"), ["z", "c", "d"])
        process.detach(1)
        self.assertEqual(process.why("c"), ["app", "a", "b", "c"])

    def test_the_least_of_the_shortest_paths(self):
        store = store_of({
            "m": ("z", "b"), "z": ("a", "end"), "b": ("y", "x"), "a": (), "x": ("end", "goal"), "y": ("goal",), "end": (),
            "goal": (), "n": ("a",),
        })
        process = Process(store, "m")
        self.assertEqual(process.why("goal"), ["m", "b", "x", "goal"])
        self.assertEqual(process.why("end"), ["m", "z", "end"])
        process.attach("n")
        self.assertEqual(process.why("a"), ["n", "a"])
        process.attach("y")
        process.attach("x")
        self.assertEqual(process.why("goal"), ["x", "goal"])

    def test_the_least_first_step_counts_before_the_last_one(self):
        store = store_of({"m": ("a", "b"), "a": ("z",), "b": ("c",), "z": ("goal",), "c": ("goal",), "goal": ()})
        self.assertEqual(Process(store, "m").why("goal"), ["m", "a", "z", "goal"])

    def test_bindings_lead_to_their_targets(self):
        process = bound_row()
        self.assertEqual(process.why("base"), ["three", "base"])
        process.detach(3)
        self.assertEqual(process.why("base"), ["two", "three", "base"])
        process.detach(2)
        self.assertEqual(process.why("base"), ["one", "two", "three", "base"])
        self.assertEqual(process.why("z"), ["x", "y", "z"])

    def test_not_loaded(self):
        process = bound_row()
        kept = process_kept(process)
        for ask in [process.why, process.holders]:
            for at, thing in enumerate(no_words() + ["zzz", "put", Same("app")]):
                with self.subTest(at):
                    with self.assertRaises(NotLoaded) as caught:
                        ask(thing)
                    self.assertIs(caught.exception.name, thing)
        self.assertEqual(process_kept(process), kept)

    def test_the_list_is_new(self):
        process = bound_row()
        process.why("z").clear()
        process.holders("z").clear()
        self.assertEqual([process.why("z"), process.holders("z")], [["x", "y", "z"], [4]])


class HoldersTest(unittest.TestCase):
    def test_main_and_preloads(self):
        process = Process(example_store(), "app", preloads=("extra",))
        process.attach("core")
        process.attach("app")
        process.attach("log")
        for name in ["app", "ui", "core", "extra"]:
            self.assertIsNone(process.holders(name))
        self.assertEqual(process.holders("log"), [3])

    def test_a_preload_holds_by_a_binding(self):
        process = Process(example_store(), "app", preloads=("extra",))
        process.attach("log", spread=True)
        self.assertEqual(process.holders("log"), [1])
        process.call("extra", "log")
        self.assertIsNone(process.holders("log"))

    def test_all_handles_from_which_a_path_leads(self):
        process = bound_row()
        process.attach("three")
        process.attach("z")
        self.assertEqual([process.holders(name) for name in ["one", "two", "three", "base", "x", "y"]],
                         [[1], [1, 2], [1, 2, 3, 5], [1, 2, 3, 5], [4, 6], [4, 6]])
        process.detach(2)
        self.assertEqual(process.holders("base"), [1, 3, 5])
        self.assertIsNone(process.holders("app"))


class GoesTest(unittest.TestCase):
    def test_against_closing_in_a_copy(self):
        process = bound_row()
        process.attach("three")
        process.attach("z")
        kept = process_kept(process)
        for many in range(5):
            for some in itertools.permutations([1, 2, 3, 4, 5, 6], many):
                twin = process.copy()
                order = twin.order()
                gone = [name for handle in some for name in twin.detach(handle)]
                told = process.goes(some)
                self.assertEqual(sorted(told), sorted(gone))
                self.assertEqual(told, [name for name in reversed(order) if name in gone])
        self.assertEqual(process_kept(process), kept)

    def test_none_at_all(self):
        process = bound_row()
        self.assertEqual(process.goes(()), [])
        self.assertEqual(process.goes((4, 1, 3, 2)), ["x", "y", "z", "three", "base", "two", "one"])

    def test_the_first_item_that_is_no_open_handle(self):
        process = bound_row()
        process.detach(2)
        kept = process_kept(process)
        things = [thing for thing in no_handles() if not bare(thing)]
        for at, thing in enumerate(things + [0, 2, 5, -1]):
            for some in [(thing,), (1, thing), (thing, thing), (4, 3, thing, 3), (1, thing, 0, True)]:
                with self.subTest(f"{at} {len(some)}"):
                    with self.assertRaises(NoHandle) as caught:
                        process.goes(some)
                    self.assertIs(caught.exception.handle, thing)
        self.assertEqual(process_kept(process), kept)

    def test_a_handle_that_occurred_before(self):
        process = bound_row()
        for some, wrong in [((1, 1), 1), ((3, 1, 3), 3), ((1, 2, 2, 1), 2), ((4, 4, 9), 4), ((4, 9, 4), 9)]:
            with self.assertRaises(NoHandle) as caught:
                process.goes(some)
            self.assertEqual(caught.exception.handle, wrong)

    def test_no_tuple(self):
        process = bound_row()
        for at, thing in enumerate([thing for thing in no_handles() if not isinstance(thing, tuple)] + [[1], [], 1]):
            with self.subTest(at):
                with self.assertRaises(NoHandle) as caught:
                    process.goes(thing)
                self.assertIs(caught.exception.handle, thing)

    def test_the_tuple_stays_and_the_list_is_new(self):
        process = bound_row()
        some = (1, 4)
        told = process.goes(some)
        told.clear()
        self.assertEqual(some, (1, 4))
        self.assertEqual(process.goes(some), ["x", "y", "z", "one"])
        self.assertEqual([process.handles()[0], process.handles()[3]], [(1, "one"), (4, "x")])


if __name__ == "__main__":
    unittest.main()
