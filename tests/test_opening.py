"""[4.1] to [4.5]: libraries that are opened, uses that are called, find and after."""

import unittest

from scopebind.errors import Missing, NoHandle, NoName, NoSymbol, NotLoaded, NotUsed, Unresolved
from scopebind.libraries import Library, Store
from scopebind.process import Process
from tests.samples import Same, example_store, no_handles, no_words, process_kept, store_of, words


def started():
    return Process(example_store(), "app")


class AttachTest(unittest.TestCase):
    def test_handles_count_from_one(self):
        process = started()
        self.assertEqual([process.attach(name) for name in ["log", "app", "log", "extra", "core"]], [1, 2, 3, 4, 5])
        self.assertEqual(process.handles(), [(1, "log"), (2, "app"), (3, "log"), (4, "extra"), (5, "core")])

    def test_a_handle_is_never_used_again(self):
        process = started()
        self.assertEqual(process.attach("log"), 1)
        process.detach(1)
        self.assertEqual(process.attach("log"), 2)
        self.assertEqual(process.attach("ui"), 3)
        process.detach(3)
        process.detach(2)
        self.assertEqual(process.attach("ui"), 4)
        self.assertEqual(process.handles(), [(4, "ui")])

    def test_a_failed_call_takes_no_handle(self):
        store = store_of({"app": (), "bad": ("absent",)})
        process = Process(store, "app")
        for thing in ["bad", "zzz", None]:
            with self.assertRaises((NoName, Missing)):
                process.attach(thing)
        self.assertEqual(process.attach("app"), 1)
        with self.assertRaises(Missing):
            process.attach("bad", spread=True)
        self.assertEqual(process.attach("app"), 2)

    def test_the_closure_is_loaded(self):
        store = store_of({"app": ("a",), "a": (), "b": ("c", "a"), "c": ("d",), "d": (), "e": ("b",)})
        process = Process(store, "app")
        process.attach("b")
        self.assertEqual(process.loaded(), ["a", "app", "b", "c", "d"])
        for name in "bcd":
            self.assertEqual(process.local(name), ["b", "c", "a", "d"])
        self.assertEqual([process.local("a"), process.local("app")], [["app", "a"], ["app", "a"]])
        process.attach("e")
        self.assertEqual(process.local("e"), ["e", "b", "c", "a", "d"])
        self.assertEqual(process.local("b"), ["b", "c", "a", "d"])

    def test_a_loaded_library_keeps_its_local_scope(self):
        process = started()
        process.attach("extra")
        process.attach("core")
        process.attach("ui", spread=True)
        self.assertEqual([process.local("core"), process.local("ui")], [["app", "ui", "core"]] * 2)

    def test_new_libraries_are_initialized_behind_all_elder_ones(self):
        store = store_of({"app": (), "b": ("c", "d"), "c": ("d",), "d": ("b",), "e": ("f", "c", "g"), "f": (), "g": ()})
        process = Process(store, "app")
        process.attach("c")
        self.assertEqual(process.order(), ["app", "b", "d", "c"])
        process.attach("e")
        self.assertEqual(process.order(), ["app", "b", "d", "c", "f", "g", "e"])
        process.attach("app")
        self.assertEqual(process.order(), ["app", "b", "d", "c", "f", "g", "e"])

    def test_without_spread_the_global_scope_stays(self):
        process = started()
        process.attach("extra")
        process.attach("log", spread=False)
        self.assertEqual(process.scope(), ["app", "ui", "core"])

    def test_spread_appends_the_closure_in_its_order(self):
        store = store_of({"app": ("z",), "z": (), "b": ("y", "z", "c"), "c": ("d",), "y": (), "d": ("z",)})
        process = Process(store, "app")
        process.attach("b", spread=True)
        self.assertEqual(process.scope(), ["app", "z", "b", "y", "c", "d"])

    def test_spread_of_what_is_loaded_or_in_the_global_scope(self):
        process = Process(example_store(), "app", preloads=("log",))
        process.attach("extra")
        self.assertEqual(process.scope(), ["app", "log", "ui", "core"])
        process.attach("extra", spread=True)
        self.assertEqual(process.scope(), ["app", "log", "ui", "core", "extra"])
        process.attach("extra", spread=True)
        process.attach("app", spread=True)
        process.attach("extra")
        self.assertEqual(process.scope(), ["app", "log", "ui", "core", "extra"])

    def test_spread_takes_in_what_only_a_preload_needs(self):
        store = store_of({"app": (), "pre": ("x",), "x": ("y",), "y": ()})
        process = Process(store, "app", preloads=("pre",))
        self.assertEqual(process.scope(), ["app", "pre"])
        process.attach("x", spread=True)
        self.assertEqual(process.scope(), ["app", "pre", "x", "y"])

    def test_what_is_spread_stays_while_it_is_loaded(self):
        process = started()
        process.attach("extra", spread=True)
        process.attach("extra")
        process.detach(1)
        self.assertEqual(process.scope(), ["app", "ui", "core", "extra"])

    def test_eager_libraries_bind_once_the_scopes_are_set(self):
        store = Store([
            Library("app", uses=("put",), weak=("put",)), Library("old", uses=("put",), eager=True),
            Library("one", needs=("two",), uses=("put", "say", "zzz"), eager=True),
            Library("two", defines=("put",), uses=("put", "log"), weak=("log",), eager=True),
            Library("own", needs=("base",), uses=("put",), eager=True, own_first=True),
            Library("base", defines=("put", "say"), uses=("put",)),
        ])
        process = Process(store, "app")
        process.attach("old")
        self.assertEqual(process.bindings(), [])
        process.attach("one", spread=True)
        self.assertEqual(process.bindings(), [("one", "put", "two"), ("two", "put", "two")])
        process.attach("own")
        self.assertEqual(process.bindings(), [("one", "put", "two"), ("own", "put", "base"), ("two", "put", "two")])
        # Only newly loaded libraries bind: old has a target now, and one has one for say after this.
        process.attach("base", spread=True)
        process.attach("one")
        process.attach("old")
        self.assertEqual(len(process.bindings()), 3)
        self.assertEqual([process.target("old", "put"), process.target("one", "say")], ["two", "base"])

    def test_eager_binds_to_what_spread_appends(self):
        store = Store([
            Library("app"), Library("one", needs=("two",), defines=("say",)),
            Library("two", uses=("put",), eager=True), Library("far", defines=("put",), needs=("two",)),
        ])
        process = Process(store, "app")
        process.attach("far")
        self.assertEqual(process.bindings(), [("two", "put", "far")])
        process = Process(store, "app")
        process.attach("one")
        process.attach("far", spread=True)
        self.assertEqual(process.bindings(), [])

    def test_no_name(self):
        process = started()
        kept = process_kept(process)
        for at, thing in enumerate(no_words() + ["apps", "zzz", "put", Same("log")]):
            for spread in [False, True]:
                with self.subTest(f"{at} {spread}"):
                    with self.assertRaises(NoName) as caught:
                        process.attach(thing, spread=spread)
                    self.assertIs(caught.exception.name, thing)
        self.assertEqual(process_kept(process), kept)

    def test_missing(self):
        store = store_of({
            "app": (), "one": ("app", "two", "lost"), "two": ("gone",), "three": ("four", "two"), "four": ("none",),
        })
        process = Process(store, "app")
        kept = process_kept(process)
        for name, absent in [("one", "lost"), ("two", "gone"), ("three", "none"), ("four", "none")]:
            for spread in [False, True]:
                with self.assertRaises(Missing) as caught:
                    process.attach(name, spread=spread)
                self.assertEqual(caught.exception.name, absent)
                self.assertEqual(process_kept(process), kept)

    def test_spread_is_passed_by_name(self):
        with self.assertRaises(TypeError):
            started().attach("log", True)

    def test_forty_libraries_and_sixty_handles(self):
        row = words(40)
        process = Process(store_of({name: row[at + 1:at + 2] for at, name in enumerate(row)}), row[39])
        for at in range(60):
            self.assertEqual(process.attach(row[39 - at % 40], spread=at % 2 == 1), at + 1)
        self.assertEqual([len(process), len(process.handles()), len(process.scope())], [40, 60, 40])


class CallTest(unittest.TestCase):
    def test_a_call_binds(self):
        process = started()
        self.assertEqual([process.call("app", "put"), process.call("app", "get")], ["ui", "core"])
        self.assertEqual(process.bindings(), [("app", "get", "core"), ("app", "put", "ui")])
        self.assertEqual(process.call("app", "put"), "ui")

    def test_target_binds_nothing(self):
        process = started()
        self.assertEqual(process.target("app", "put"), "ui")
        self.assertEqual(process.bindings(), [])

    def test_a_bound_use_stays_bound(self):
        store = Store([
            Library("app", uses=("put", "get")), Library("one", needs=("own",), uses=("put", "get")),
            Library("own", defines=("put", "get")), Library("other", defines=("put", "get")),
        ])
        process = Process(store, "app")
        process.attach("one")
        self.assertEqual(process.call("one", "put"), "own")
        process.attach("other", spread=True)
        self.assertEqual([process.target("one", "put"), process.target("one", "get")], ["own", "other"])
        self.assertEqual([process.call("one", "put"), process.call("one", "get")], ["own", "other"])
        process.attach("own", spread=True)
        self.assertEqual(process.bindings(), [("one", "get", "other"), ("one", "put", "own")])

    def test_bindings_are_sorted(self):
        store = Store([
            Library("z", needs=("b", "a"), uses=("y", "x"), defines=("x",)), Library("b", defines=("y",), uses=("x",)),
            Library("a", uses=("y",)),
        ])
        process = Process(store, "z")
        for name, symbol in [("z", "y"), ("b", "x"), ("z", "x"), ("a", "y")]:
            process.call(name, symbol)
        self.assertEqual(process.bindings(), [("a", "y", "b"), ("b", "x", "z"), ("z", "x", "z"), ("z", "y", "b")])

    def test_a_weak_use_without_a_target(self):
        process = started()
        process.attach("extra")
        for _ in range(2):
            self.assertIsNone(process.call("extra", "log"))
            self.assertIsNone(process.target("extra", "log"))
            self.assertEqual(process.bindings(), [])
        process.attach("log", spread=True)
        self.assertEqual(process.target("extra", "log"), "log")
        self.assertEqual(process.call("extra", "log"), "log")
        self.assertEqual(process.bindings(), [("extra", "log", "log")])

    def test_another_use_without_a_target(self):
        store = Store([Library("app", uses=("put", "get"), weak=("get",)), Library("one", defines=("put", "get"))])
        process = Process(store, "app")
        kept = process_kept(process)
        for _ in range(2):
            with self.assertRaises(Unresolved) as caught:
                process.call("app", "put")
            self.assertEqual(caught.exception.use, ("app", "put"))
            self.assertIsInstance(caught.exception.use, tuple)
            self.assertIsNone(process.target("app", "put"))
            self.assertEqual(process_kept(process), kept)
        process.attach("one", spread=True)
        self.assertEqual(process.call("app", "put"), "one")

    def test_what_is_loaded_but_in_no_scope_is_no_target(self):
        store = Store([Library("app", uses=("put",), weak=("put",)), Library("one", defines=("put",))])
        process = Process(store, "app")
        process.attach("one")
        self.assertIsNone(process.call("app", "put"))

    def test_errors(self):
        process = started()
        process.attach("extra")
        kept = process_kept(process)
        for ask in [process.call, process.target]:
            for at, thing in enumerate(no_words()):
                with self.subTest(at):
                    for symbol in ["put", "zzz", thing]:
                        with self.assertRaises(NotLoaded) as caught:
                            ask(thing, symbol)
                        self.assertIs(caught.exception.name, thing)
                    with self.assertRaises(NotLoaded) as caught:
                        ask("log", thing)
                    self.assertEqual(caught.exception.name, "log")
                    for name in ["app", "core"]:
                        with self.assertRaises(NoSymbol) as caught:
                            ask(name, thing)
                        self.assertIs(caught.exception.symbol, thing)
            for name, symbol in [("app", "log"), ("core", "put"), ("ui", "put"), ("extra", "get"), ("app", "zzz")]:
                with self.assertRaises(NotUsed) as caught:
                    ask(name, symbol)
                self.assertEqual(caught.exception.symbol, symbol)
        self.assertEqual(process_kept(process), kept)

    def test_bindings_are_gone_with_the_library(self):
        process = started()
        process.attach("log", spread=True)
        process.attach("extra")
        process.call("extra", "log")
        process.call("app", "put")
        process.detach(2)
        self.assertEqual(process.bindings(), [("app", "put", "ui")])
        process.attach("extra")
        self.assertEqual(process.bindings(), [("app", "put", "ui")])


class FindTest(unittest.TestCase):
    def start(self):
        store = Store([
            Library("app", needs=("core",)), Library("core", defines=("put",)),
            Library("one", needs=("two", "three")), Library("two", needs=("four",), defines=("get",)),
            Library("three", defines=("put",)), Library("four", defines=("put", "get", "log")),
        ])
        process = Process(store, "app")
        process.attach("one")
        process.attach("two")
        process.attach("core")
        process.attach("four", spread=True)
        process.detach(2)
        return process

    def test_a_handle_asks_the_closure_of_its_library(self):
        process = self.start()
        self.assertEqual([process.find(1, symbol) for symbol in ["put", "get", "log", "zzz"]],
                         ["three", "two", "four", None])
        self.assertEqual([process.find(3, symbol) for symbol in ["put", "get"]], ["core", None])
        self.assertEqual([process.find(4, symbol) for symbol in ["put", "get"]], ["four", "four"])

    def test_0_asks_the_global_scope(self):
        process = self.start()
        self.assertEqual([process.find(0, symbol) for symbol in ["put", "get", "log", "zzz"]],
                         ["core", "four", "four", None])
        self.assertIsNone(started().find(0, "log"))

    def test_nothing_is_bound(self):
        process = self.start()
        kept = process_kept(process)
        process.find(1, "put")
        process.find(0, "put")
        self.assertEqual(process_kept(process), kept)

    def test_no_handle(self):
        process = self.start()
        kept = process_kept(process)
        wrong = [thing for thing in no_handles() if isinstance(thing, bool) or not isinstance(thing, int)]
        for at, thing in enumerate(wrong + [2, 5, -1, -2, 10 ** 30]):
            with self.subTest(at):
                for symbol in ["put", "", None]:
                    with self.assertRaises(NoHandle) as caught:
                        process.find(thing, symbol)
                    self.assertIs(caught.exception.handle, thing)
        self.assertEqual(process_kept(process), kept)

    def test_no_symbol(self):
        process = self.start()
        for at, thing in enumerate(no_words()):
            for handle in [0, 1, 3]:
                with self.subTest(f"{at} {handle}"):
                    with self.assertRaises(NoSymbol) as caught:
                        process.find(handle, thing)
                    self.assertIs(caught.exception.symbol, thing)


class AfterTest(unittest.TestCase):
    def start(self):
        store = Store([
            Library("app", needs=("core",), defines=("put",)), Library("core", defines=("put", "get")),
            Library("one", needs=("two", "core"), defines=("get", "put", "log")),
            Library("two", needs=("three",), defines=("put", "get"), own_first=True),
            Library("three", defines=("put", "log"), own_first=True),
        ])
        process = Process(store, "app")
        process.attach("one")
        return process

    def test_the_next_definer_in_the_search_order(self):
        process = self.start()
        self.assertEqual([process.after("app", "put"), process.after("app", "get")], ["core", "core"])
        self.assertEqual([process.after("core", "put"), process.after("core", "get")], [None, None])
        self.assertEqual([process.after("one", symbol) for symbol in ["get", "put", "log", "zzz"]],
                         ["two", "two", "three", None])

    def test_own_first(self):
        process = self.start()
        self.assertEqual(process.local("two"), ["one", "two", "core", "three"])
        self.assertEqual([process.after("two", symbol) for symbol in ["get", "put", "log"]], ["core", "core", "three"])
        self.assertEqual([process.after("three", symbol) for symbol in ["get", "put", "log"]], [None, "app", None])

    def test_without_repetition(self):
        # What the global scope has ahead of a library is not asked again where its local scope names it.
        process = self.start()
        process.attach("two", spread=True)
        self.assertEqual(process.scope(), ["app", "core", "two", "three"])
        self.assertEqual([process.after("one", "get"), process.after("one", "put")], [None, None])
        self.assertEqual([process.after("two", "get"), process.after("two", "put")], ["core", "core"])

    def test_the_library_need_not_define_or_use_the_symbol(self):
        process = Process(example_store(), "app")
        self.assertEqual([process.after("app", "put"), process.after("app", "get")], ["ui", "core"])
        self.assertIsNone(process.after("core", "put"))
        self.assertEqual(process.after("ui", "put"), "core")

    def test_a_binding_does_not_matter(self):
        process = Process(example_store(), "app")
        process.call("app", "put")
        self.assertEqual(process.after("app", "put"), "ui")
        self.assertEqual(process.bindings(), [("app", "put", "ui")])

    def test_errors(self):
        process = self.start()
        kept = process_kept(process)
        for at, thing in enumerate(no_words() + ["zzz"]):
            with self.subTest(at):
                for symbol in ["put", thing, None]:
                    with self.assertRaises(NotLoaded) as caught:
                        process.after(thing, symbol)
                    self.assertIs(caught.exception.name, thing)
        for at, thing in enumerate(no_words()):
            with self.subTest(at):
                with self.assertRaises(NoSymbol) as caught:
                    process.after("two", thing)
                self.assertIs(caught.exception.symbol, thing)
        self.assertEqual(process_kept(process), kept)


if __name__ == "__main__":
    unittest.main()
