"""[3.1] to [3.7]: a process that starts, its scopes, targets and order; and [0.3], [0.4] for these."""

import unittest

from scopebind.errors import Missing, NoName, NoPreloads, NoSymbol, NotLoaded, NotUsed
from scopebind.libraries import Library, Store, names
from scopebind.process import Process
from tests.samples import Same, example_store, no_words, process_kept, store_of, words


def all_need_all(row):
    """Return a store in which each library needs all the others."""
    return store_of({name: tuple(other for other in row if other != name) for name in row})


class StartTest(unittest.TestCase):
    def refuses(self, at, preloads, store=None):
        with self.assertRaises(NoPreloads) as caught:
            Process(store or example_store(), "app", preloads=preloads)
        self.assertEqual(caught.exception.at, at)
        self.assertNotIsInstance(caught.exception.at, bool)

    def misses(self, absent, store, main, preloads=()):
        with self.assertRaises(Missing) as caught:
            Process(store, main, preloads=preloads)
        self.assertEqual(caught.exception.name, absent)

    def test_closure_of_main_and_of_each_preload_is_loaded(self):
        store = example_store()
        self.assertEqual(Process(store, "app").loaded(), ["app", "core", "ui"])
        self.assertEqual(Process(store, "core").loaded(), ["core"])
        self.assertEqual(Process(store, "core", preloads=("extra",)).loaded(), ["core", "extra"])
        self.assertEqual(Process(store, "log", preloads=("ui", "app")).loaded(), ["app", "core", "log", "ui"])
        self.assertEqual(Process(store, "log", preloads=()).loaded(), ["log"])

    def test_main_that_is_no_name(self):
        store = example_store()
        for at, thing in enumerate(no_words() + ["apps", "zzz", "put"]):
            with self.subTest(at):
                with self.assertRaises(NoName) as caught:
                    Process(store, thing)
                self.assertIs(caught.exception.name, thing)

    def test_preloads_that_are_no_tuple(self):
        for at, thing in enumerate([thing for thing in no_words() if not isinstance(thing, tuple)]):
            with self.subTest(at):
                self.refuses(None, thing)
        for thing in [["ui"], "ui", {"ui": 1}, iter(("ui",)), None, {"ui"}]:
            self.refuses(None, thing)

    def test_preloads_that_hold_what_is_no_name(self):
        for at, thing in enumerate(no_words() + ["apps", "zzz", Same("ui")]):
            with self.subTest(at):
                self.refuses(0, (thing,))
                self.refuses(1, ("ui", thing, thing))
                self.refuses(2, ("ui", "log", thing, "app", "ui"))

    def test_preloads_that_hold_a_name_twice_or_main(self):
        self.refuses(1, ("ui", "ui"))
        self.refuses(2, ("ui", "log", "ui"))
        self.refuses(2, ("ui", "log", "log", "ui"))
        self.refuses(0, ("app",))
        self.refuses(1, ("ui", "app", "ui"))
        self.refuses(0, ("app", "app"))
        self.refuses(1, ("ui", "ui", None))
        self.refuses(1, ("ui", None, "ui"))

    def test_main_is_told_before_the_preloads_and_these_before_what_is_missing(self):
        store = store_of({"app": ("absent",), "ui": ()})
        for thing in no_words():
            with self.assertRaises(NoName):
                Process(store, thing, preloads=None)
            with self.assertRaises(NoName):
                Process(store, thing, preloads=(thing,))
        self.refuses(None, ["ui"], store)
        self.refuses(1, ("ui", "zzz"), store)
        self.refuses(0, ("app",), store)
        self.misses("absent", store, "app", ("ui",))

    def test_which_missing_library_is_told_first(self):
        store = store_of({
            "app": ("core",), "core": (), "one": ("core", "lost"), "two": ("gone",), "bad": ("core", "two", "none"),
            "three": ("two", "never"),
        })
        self.misses("none", store, "bad", ("one", "two"))
        self.misses("lost", store, "app", ("one", "two"))
        self.misses("gone", store, "app", ("two", "one"))
        self.misses("lost", store, "app", ("core", "one"))
        self.misses("never", store, "app", ("three", "one"))
        self.misses("gone", store, "two", ("one",))
        self.assertEqual(Process(store, "app", preloads=("core",)).loaded(), ["app", "core"])

    def test_absent_libraries_that_nobody_needs_do_not_matter(self):
        store = store_of({"app": ("core",), "core": (), "bad": ("absent", "app")})
        self.assertEqual(Process(store, "app", preloads=("core",)).order(), ["core", "app"])

    def test_preloads_are_passed_by_name(self):
        with self.assertRaises(TypeError):
            Process(example_store(), "app", ("ui",))
        with self.assertRaises(TypeError):
            Process(example_store())

    def test_forty_libraries(self):
        row = words(40)
        store = store_of({name: row[at + 1:at + 2] for at, name in enumerate(row)})
        process = Process(store, row[0], preloads=row[:0:-1])
        self.assertEqual(process.scope(), [row[0], *row[:0:-1]])
        self.assertEqual(process.order(), list(row[::-1]))
        self.assertEqual(len(process), 40)
        self.assertEqual(len(Process(store, row[20])), 20)
        self.assertEqual(len(Process(store, row[39], preloads=row[:39])), 40)


class ScopeTest(unittest.TestCase):
    def test_main_then_preloads_then_the_rest_of_the_closure(self):
        store = example_store()
        self.assertEqual(Process(store, "app").scope(), ["app", "ui", "core"])
        self.assertEqual(Process(store, "app", preloads=("extra", "log")).scope(),
                         ["app", "extra", "log", "ui", "core"])
        self.assertEqual(Process(store, "app", preloads=("log", "extra")).scope(),
                         ["app", "log", "extra", "ui", "core"])

    def test_a_preload_that_main_needs_stands_ahead(self):
        store = example_store()
        self.assertEqual(Process(store, "app", preloads=("core",)).scope(), ["app", "core", "ui"])
        self.assertEqual(Process(store, "app", preloads=("core", "log", "ui")).scope(), ["app", "core", "log", "ui"])

    def test_what_only_preloads_need_is_not_in_it(self):
        store = store_of({"app": ("a",), "a": (), "pre": ("x", "a"), "x": ("y",), "y": ()})
        process = Process(store, "app", preloads=("pre",))
        self.assertEqual(process.scope(), ["app", "pre", "a"])
        self.assertEqual(process.loaded(), ["a", "app", "pre", "x", "y"])
        process = Process(store, "a", preloads=("app",))
        self.assertEqual(process.scope(), ["a", "app"])

    def test_rings(self):
        row = words(6)
        store = all_need_all(row)
        process = Process(store, row[2])
        self.assertEqual(process.scope(), [row[2], row[0], row[1], row[3], row[4], row[5]])
        process = Process(store, row[2], preloads=(row[4], row[0]))
        self.assertEqual(process.scope(), [row[2], row[4], row[0], row[1], row[3], row[5]])

    def test_the_list_is_new(self):
        process = Process(example_store(), "app")
        told = process.scope()
        told.append("log")
        told[0] = "log"
        self.assertEqual(process.scope(), ["app", "ui", "core"])
        self.assertIsNot(process.scope(), process.scope())


class LocalTest(unittest.TestCase):
    def test_what_main_loads_has_the_closure_of_main(self):
        process = Process(example_store(), "app")
        for name in ["app", "ui", "core"]:
            self.assertEqual(process.local(name), ["app", "ui", "core"])

    def test_what_a_preload_adds_has_the_closure_of_the_preload(self):
        process = Process(example_store(), "app", preloads=("extra", "log"))
        self.assertEqual(process.local("extra"), ["extra", "core"])
        self.assertEqual(process.local("log"), ["log"])
        self.assertEqual(process.local("core"), ["app", "ui", "core"])

    def test_a_preload_that_main_needs_keeps_the_closure_of_main(self):
        process = Process(example_store(), "app", preloads=("core",))
        self.assertEqual(process.local("core"), ["app", "ui", "core"])

    def test_a_preload_that_an_elder_preload_needs(self):
        store = store_of({"app": (), "one": ("two", "base"), "two": ("base",), "base": ()})
        process = Process(store, "app", preloads=("one", "two"))
        for name in ["one", "two", "base"]:
            self.assertEqual(process.local(name), ["one", "two", "base"])
        process = Process(store, "app", preloads=("two", "one"))
        self.assertEqual([process.local(name) for name in ["one", "two", "base"]],
                         [["one", "two", "base"], ["two", "base"], ["two", "base"]])

    def test_a_preload_that_needs_main(self):
        process = Process(example_store(), "core", preloads=("app",))
        self.assertEqual([process.local(name) for name in ["core", "app", "ui"]],
                         [["core"], ["app", "ui", "core"], ["app", "ui", "core"]])

    def test_the_closure_may_begin_within_a_ring(self):
        store = store_of({"a": ("b",), "b": ("c",), "c": ("a", "d"), "d": ()})
        process = Process(store, "b")
        for name in "abcd":
            self.assertEqual(process.local(name), ["b", "c", "a", "d"])

    def test_not_loaded(self):
        process = Process(example_store(), "app")
        kept = process_kept(process)
        for at, thing in enumerate(no_words() + ["extra", "log", "zzz", "put", Same("app")]):
            with self.subTest(at):
                with self.assertRaises(NotLoaded) as caught:
                    process.local(thing)
                self.assertIs(caught.exception.name, thing)
        self.assertEqual(process_kept(process), kept)

    def test_the_list_is_new(self):
        process = Process(example_store(), "app")
        process.local("ui").clear()
        process.local("app").append("log")
        self.assertEqual(process.local("ui"), ["app", "ui", "core"])
        self.assertEqual(process.local("app"), ["app", "ui", "core"])


class TargetTest(unittest.TestCase):
    def test_the_first_definer_in_the_global_scope(self):
        process = Process(example_store(), "app")
        self.assertEqual([process.target("app", "put"), process.target("app", "get")], ["ui", "core"])
        process = Process(example_store(), "app", preloads=("core",))
        self.assertEqual([process.target("app", "put"), process.target("app", "get")], ["core", "core"])

    def test_the_global_scope_is_ahead_of_the_local_one(self):
        store = Store([
            Library("app", needs=("core",), uses=("put",)), Library("core", defines=("put",)),
            Library("pre", needs=("own", "core"), uses=("put", "say", "zzz")),
            Library("own", defines=("put", "say"), uses=("put", "say")),
        ])
        process = Process(store, "app", preloads=("pre",))
        self.assertEqual([process.target("pre", "put"), process.target("pre", "say")], ["core", "own"])
        self.assertEqual([process.target("own", "put"), process.target("own", "say")], ["core", "own"])
        self.assertIsNone(process.target("pre", "zzz"))

    def test_own_first_asks_the_local_scope_first(self):
        store = Store([
            Library("app", needs=("core",)), Library("core", defines=("put", "log")),
            Library("pre", needs=("own", "core"), uses=("put", "log", "get"), own_first=True),
            Library("own", defines=("put", "say"), uses=("put", "log"), own_first=True),
            Library("other", defines=("get", "put", "log")),
        ])
        process = Process(store, "app", preloads=("other", "pre"))
        self.assertEqual(process.scope(), ["app", "other", "pre", "core"])
        self.assertEqual([process.target("pre", symbol) for symbol in ["put", "log", "get"]], ["own", "core", "other"])
        self.assertEqual([process.target("own", symbol) for symbol in ["put", "log"]], ["own", "core"])
        process = Process(store, "app", preloads=("pre", "own"))
        self.assertEqual(process.local("own"), ["pre", "own", "core"])
        self.assertEqual(process.target("own", "put"), "own")

    def test_a_library_may_be_its_own_target(self):
        store = Store([Library("app", defines=("put",), uses=("put",))])
        self.assertEqual(Process(store, "app").target("app", "put"), "app")

    def test_errors(self):
        process = Process(example_store(), "app", preloads=("extra",))
        kept = process_kept(process)
        for at, thing in enumerate(no_words()):
            with self.subTest(at):
                for symbol in ["put", "", thing]:
                    with self.assertRaises(NotLoaded) as caught:
                        process.target(thing, symbol)
                    self.assertIs(caught.exception.name, thing)
                with self.assertRaises(NotLoaded):
                    process.target("log", thing)
                with self.assertRaises(NoSymbol) as caught:
                    process.target("app", thing)
                self.assertIs(caught.exception.symbol, thing)
        for name, symbol in [("app", "log"), ("core", "put"), ("extra", "get"), ("app", "zzz")]:
            with self.assertRaises(NotUsed) as caught:
                process.target(name, symbol)
            self.assertEqual(caught.exception.symbol, symbol)
        self.assertEqual(process_kept(process), kept)


class OrderTest(unittest.TestCase):
    def test_needs_come_first_in_their_order(self):
        self.assertEqual(Process(example_store(), "app").order(), ["core", "ui", "app"])
        store = store_of({"app": ("z", "a"), "z": ("y", "b"), "a": ("b",), "y": (), "b": ()})
        self.assertEqual(Process(store, "app").order(), ["y", "b", "z", "a", "app"])

    def test_depth_before_breadth(self):
        store = store_of({"app": ("a", "b"), "a": ("c",), "b": ("c", "d"), "c": ("d",), "d": ()})
        self.assertEqual(Process(store, "app").order(), ["d", "c", "a", "b", "app"])

    def test_preloads_are_visited_behind_main_in_their_order(self):
        store = example_store()
        self.assertEqual(Process(store, "app", preloads=("log", "extra")).order(),
                         ["core", "ui", "app", "log", "extra"])
        self.assertEqual(Process(store, "app", preloads=("extra", "log")).order(),
                         ["core", "ui", "app", "extra", "log"])
        self.assertEqual(Process(store, "log", preloads=("core", "app")).order(), ["log", "core", "ui", "app"])

    def test_rings(self):
        store = store_of({"a": ("b",), "b": ("c",), "c": ("a",)})
        self.assertEqual(Process(store, "a").order(), ["c", "b", "a"])
        self.assertEqual(Process(store, "b").order(), ["a", "c", "b"])
        store = store_of({"app": ("a", "d"), "a": ("b",), "b": ("c", "a"), "c": ("app", "d"), "d": ("b",)})
        self.assertEqual(Process(store, "app").order(), ["d", "c", "b", "a", "app"])
        self.assertEqual(Process(all_need_all(words(4)), "ac").order(), ["ad", "ab", "aa", "ac"])

    def test_loaded_is_sorted(self):
        self.assertEqual(Process(example_store(), "app", preloads=("log", "extra")).loaded(),
                         ["app", "core", "extra", "log", "ui"])

    def test_in_and_len(self):
        process = Process(example_store(), "app", preloads=("log",))
        for name in ["app", "ui", "core", "log"]:
            self.assertIs(name in process, True)
        for at, thing in enumerate(no_words() + ["extra", "zzz", "put", Same("app")]):
            with self.subTest(at):
                self.assertIs(thing in process, False)
        self.assertEqual(len(process), 4)
        self.assertEqual(len(Process(example_store(), "log")), 1)

    def test_the_lists_are_new(self):
        process = Process(example_store(), "app")
        process.order().clear()
        process.loaded().clear()
        process.bindings().append(("app", "put", "ui"))
        process.handles().append((1, "app"))
        self.assertEqual(process.order(), ["core", "ui", "app"])
        self.assertEqual(process.loaded(), ["app", "core", "ui"])
        self.assertEqual([process.bindings(), process.handles()], [[], []])


class EagerTest(unittest.TestCase):
    def test_nothing_is_bound_at_the_start_without_eager_libraries(self):
        process = Process(example_store(), "app", preloads=("extra",))
        self.assertEqual([process.bindings(), process.handles()], [[], []])

    def test_eager_libraries_bind_all_their_uses_that_have_a_target(self):
        store = Store([
            Library("app", needs=("core",), uses=("put", "zzz", "get"), eager=True),
            Library("core", defines=("put",), uses=("get", "put"), weak=("get",)),
            Library("pre", needs=("far",), defines=("get",), uses=("say", "put", "log"), weak=("log",), eager=True),
            Library("far", defines=("say",), uses=("say", "zzz"), eager=True),
        ])
        process = Process(store, "app", preloads=("pre",))
        self.assertEqual(process.bindings(), [
            ("app", "get", "pre"), ("app", "put", "core"), ("far", "say", "far"),
            ("pre", "put", "core"), ("pre", "say", "far"),
        ])
        self.assertEqual(Process(store, "app").bindings(), [("app", "put", "core")])

    def test_scopes_are_set_before_anything_is_bound(self):
        # The binding of main goes to the preload, which stands behind main in the order of loading.
        store = Store([
            Library("app", needs=("core",), uses=("put",), eager=True), Library("core", defines=("put",)),
            Library("pre", needs=("own",), defines=("put",)),
            Library("own", defines=("get",), uses=("put",), eager=True),
        ])
        process = Process(store, "app", preloads=("pre",))
        self.assertEqual(process.bindings(), [("app", "put", "pre"), ("own", "put", "pre")])

    def test_eager_and_own_first(self):
        store = Store([
            Library("app", needs=("core",)), Library("core", defines=("put",)),
            Library("pre", needs=("own",), uses=("put",), eager=True, own_first=True),
            Library("own", defines=("put",), uses=("put",), eager=True),
        ])
        process = Process(store, "app", preloads=("pre",))
        self.assertEqual(process.bindings(), [("own", "put", "core"), ("pre", "put", "own")])


class CopyTest(unittest.TestCase):
    def start(self):
        process = Process(example_store(), "app", preloads=("extra",))
        process.attach("log", spread=True)
        process.attach("log")
        process.call("extra", "log")
        process.call("app", "put")
        process.detach(1)
        return process

    def test_the_same_state(self):
        process = self.start()
        twin = process.copy()
        self.assertIsInstance(twin, Process)
        self.assertIsNot(twin, process)
        self.assertEqual(process_kept(twin), process_kept(process))
        self.assertEqual(twin.handles(), [(2, "log")])
        self.assertEqual(twin.attach("ui"), 3)
        self.assertEqual(process.attach("core"), 3)

    def test_steps_of_the_copy_alone(self):
        process = self.start()
        kept = process_kept(process)
        twin = process.copy()
        twin.detach(2)
        twin.attach("log", spread=True)
        twin.call("app", "get")
        self.assertEqual(process_kept(process), kept)
        self.assertEqual(twin.bindings(),
                         [("app", "get", "extra"), ("app", "put", "ui"), ("extra", "log", "log")])

    def test_steps_of_the_first_one_alone(self):
        process = self.start()
        twin = process.copy()
        kept = process_kept(twin)
        process.call("app", "get")
        process.detach(2)
        process.attach("ui", spread=True)
        self.assertEqual(process_kept(twin), kept)

    def test_what_is_unloaded_in_one_stays_in_the_other(self):
        process = Process(example_store(), "app")
        handle = process.attach("log", spread=True)
        twin = process.copy()
        self.assertEqual(process.detach(handle), ["log"])
        self.assertEqual([twin.scope(), twin.local("log")], [["app", "ui", "core", "log"], ["log"]])
        self.assertEqual(process.scope(), ["app", "ui", "core"])
        self.assertEqual(twin.detach(handle), ["log"])

    def test_a_copy_of_a_copy(self):
        process = self.start()
        twin = process.copy().copy()
        self.assertEqual(process_kept(twin), process_kept(process))

    def test_arguments_stay_as_they_are(self):
        store = example_store()
        preloads = ("extra", "log")
        process = Process(store, "app", preloads=preloads)
        process.attach("log", spread=True)
        process.detach(1)
        self.assertEqual(preloads, ("extra", "log"))
        self.assertEqual(names(store), ["app", "core", "extra", "log", "ui"])

    def test_processes_of_one_store_stand_alone(self):
        store = example_store()
        first = Process(store, "app")
        second = Process(store, "app")
        kept = process_kept(second)
        first.attach("log", spread=True)
        first.call("app", "put")
        self.assertEqual(process_kept(second), kept)


if __name__ == "__main__":
    unittest.main()
