"""[2.1] closure and [2.2] definers, and [0.3], [0.4] as far as they concern these."""

import unittest

from scopebind.closures import closure, definers
from scopebind.errors import Missing, NoName, NoSymbol
from scopebind.libraries import Library, Store, names
from tests.samples import example_store, no_words, store_of, words


class ClosureTest(unittest.TestCase):
    def misses(self, absent, store, name):
        with self.assertRaises(Missing) as caught:
            closure(store, name)
        self.assertEqual(caught.exception.name, absent)

    def test_examples(self):
        store = example_store()
        self.assertEqual(closure(store, "app"), ["app", "ui", "core"])
        self.assertEqual(closure(store, "extra"), ["extra", "core"])
        self.assertEqual(closure(store, "log"), ["log"])

    def test_row(self):
        row = words(40)
        store = store_of({name: row[at + 1:at + 2] for at, name in enumerate(row)})
        self.assertEqual(closure(store, row[0]), list(row))
        self.assertEqual(closure(store, row[20]), list(row[20:]))
        self.assertEqual(closure(store, row[39]), [row[39]])

    def test_ring(self):
        store = store_of({"a": ("b",), "b": ("c",), "c": ("a",)})
        self.assertEqual(closure(store, "a"), ["a", "b", "c"])
        self.assertEqual(closure(store, "b"), ["b", "c", "a"])
        self.assertEqual(closure(store, "c"), ["c", "a", "b"])

    def test_ring_behind_a_row(self):
        store = store_of({"top": ("a",), "a": ("b",), "b": ("a", "end"), "end": ("b",)})
        self.assertEqual(closure(store, "top"), ["top", "a", "b", "end"])

    def test_all_need_all(self):
        row = words(12)
        store = store_of({name: tuple(other for other in row if other != name) for name in row})
        for at, name in enumerate(row):
            self.assertEqual(closure(store, name), [name] + list(row[:at] + row[at + 1:]))

    def test_several_paths_to_one_library(self):
        store = store_of({"top": ("a", "b"), "a": ("base",), "b": ("base", "c"), "c": ("base",), "base": ()})
        self.assertEqual(closure(store, "top"), ["top", "a", "b", "base", "c"])

    def test_breadth_before_depth(self):
        store = store_of({"top": ("a", "b"), "a": ("c",), "c": ("d",), "b": ("e",), "d": (), "e": ()})
        self.assertEqual(closure(store, "top"), ["top", "a", "b", "c", "e", "d"])

    def test_a_library_stands_where_it_is_met_first(self):
        store = store_of({"top": ("a", "b"), "a": ("b", "c"), "b": ("c", "d"), "c": (), "d": ("a", "c")})
        self.assertEqual(closure(store, "top"), ["top", "a", "b", "c", "d"])

    def test_needs_are_taken_in_their_order(self):
        store = store_of({"top": ("z", "a", "m"), "z": ("y", "b"), "a": (), "m": (), "y": (), "b": ()})
        self.assertEqual(closure(store, "top"), ["top", "z", "a", "m", "y", "b"])

    def test_missing_at_once(self):
        self.misses("core", store_of({"app": ("core",)}), "app")
        self.misses("core", store_of({"app": ("ui", "core"), "ui": ()}), "app")

    def test_missing_far_behind(self):
        row = words(40)
        needs = {name: row[at + 1:at + 2] for at, name in enumerate(row)}
        needs[row[39]] = ("absent",)
        store = store_of(needs)
        for name in row:
            self.misses("absent", store, name)

    def test_the_first_absent_one_that_is_met(self):
        self.misses("z", store_of({"app": ("z", "a")}), "app")
        self.misses("z", store_of({"app": ("ui", "z"), "ui": ("a",)}), "app")
        self.misses("far", store_of({"app": ("a", "b"), "a": ("c",), "b": ("far",), "c": ("near",)}), "app")
        self.misses("near", store_of({"app": ("a", "b"), "a": ("near",), "b": ("far",)}), "app")
        self.misses("x", store_of({"app": ("a",), "a": ("app", "x", "y")}), "app")

    def test_absent_ones_that_are_not_needed_do_not_matter(self):
        store = store_of({"app": ("core",), "core": (), "other": ("absent", "app")})
        self.assertEqual(closure(store, "app"), ["app", "core"])
        self.misses("absent", store, "other")

    def test_no_name_of_the_store(self):
        store = store_of({"core": (), "ui": ("absent",)})
        for at, thing in enumerate(no_words() + ["app", "absent", "cor"]):
            with self.subTest(at):
                with self.assertRaises(NoName) as caught:
                    closure(store, thing)
                self.assertIs(caught.exception.name, thing)

    def test_the_list_is_new_each_time(self):
        store = example_store()
        told = closure(store, "app")
        told.append("new")
        told[0] = "other"
        self.assertEqual(closure(store, "app"), ["app", "ui", "core"])
        self.assertIsNot(closure(store, "app"), closure(store, "app"))
        self.assertEqual(store["app"].needs, ("ui", "core"))

    def test_an_error_changes_nothing(self):
        store = store_of({"app": ("core", "ui"), "core": ("absent",), "ui": ()})
        self.misses("absent", store, "app")
        self.misses("absent", store, "app")
        self.assertEqual(names(store), ["app", "core", "ui"])
        self.assertEqual(closure(store, "ui"), ["ui"])


class DefinersTest(unittest.TestCase):
    def test_examples(self):
        store = example_store()
        some = ["app", "ui", "core", "extra", "log"]
        self.assertEqual(definers(store, some, "put"), ["ui", "core"])
        self.assertEqual(definers(store, some, "get"), ["core", "extra"])
        self.assertEqual(definers(store, some, "log"), ["log"])

    def test_order_and_number_are_kept(self):
        store = example_store()
        some = ["core", "ui", "app", "core", "log", "ui", "core"]
        self.assertEqual(definers(store, some, "put"), ["core", "ui", "core", "ui", "core"])
        self.assertEqual(definers(store, some, "get"), ["core", "core", "core"])

    def test_no_definer(self):
        store = example_store()
        self.assertEqual(definers(store, ["app", "ui", "core"], "zzz"), [])
        self.assertEqual(definers(store, ["app", "extra", "app"], "log"), [])
        self.assertEqual(definers(store, ["app"], "pu"), [])
        self.assertEqual(definers(store, ["ui"], "a" * 12), [])

    def test_empty_list(self):
        self.assertEqual(definers(example_store(), [], "put"), [])
        self.assertEqual(definers(Store([]), [], "put"), [])

    def test_a_part_of_a_symbol_is_another_symbol(self):
        store = Store([Library("a", defines=("putget",)), Library("b", defines=("put", "get"))])
        self.assertEqual(definers(store, ["a", "b"], "put"), ["b"])

    def test_needs_and_uses_define_nothing(self):
        store = Store([Library("a", needs=("b",), uses=("put",), weak=("put",)), Library("b", defines=("put",))])
        self.assertEqual(definers(store, ["a", "b"], "put"), ["b"])

    def test_absent_needs_do_not_matter(self):
        store = Store([Library("a", needs=("absent",), defines=("put",))])
        self.assertEqual(definers(store, ["a"], "put"), ["a"])

    def test_an_item_that_is_no_name_of_the_store(self):
        store = Store([Library("ui", defines=("put",)), Library("core", needs=("absent",))])
        for at, thing in enumerate(no_words() + ["app", "absent", "put"]):
            for some in [[thing], [thing, "ui"], ["ui", thing, "core"], ["ui", "ui", thing], ["ui", thing, "zzz"]]:
                with self.subTest(f"{at} {len(some)}"):
                    with self.assertRaises(NoName) as caught:
                        definers(store, some, "put")
                    self.assertIs(caught.exception.name, thing)

    def test_what_is_no_symbol(self):
        store = example_store()
        for at, thing in enumerate(no_words()):
            for some in [[], ["app"], ["ui", "core", "ui"]]:
                with self.subTest(f"{at} {len(some)}"):
                    with self.assertRaises(NoSymbol) as caught:
                        definers(store, some, thing)
                    self.assertIs(caught.exception.symbol, thing)

    def test_symbols_of_one_and_of_twelve_letters(self):
        store = Store([Library("a", defines=("z", "m" * 12))])
        self.assertEqual(definers(store, ["a"], "z"), ["a"])
        self.assertEqual(definers(store, ["a"], "m" * 12), ["a"])
        for symbol in ["", "m" * 13]:
            with self.assertRaises(NoSymbol):
                definers(store, ["a"], symbol)

    def test_a_wrong_name_is_told_before_a_wrong_symbol(self):
        store = example_store()
        for thing in no_words():
            with self.assertRaises(NoName) as caught:
                definers(store, ["app", "core", thing], thing)
            self.assertIs(caught.exception.name, thing)

    def test_the_passed_list_is_not_changed_and_the_returned_one_is_new(self):
        store = example_store()
        some = ["ui", "core"]
        told = definers(store, some, "put")
        self.assertEqual(told, some)
        self.assertIsNot(told, some)
        told.append("app")
        self.assertEqual(some, ["ui", "core"])
        self.assertEqual(definers(store, some, "put"), ["ui", "core"])
        with self.assertRaises(NoSymbol):
            definers(store, some, "")
        self.assertEqual(some, ["ui", "core"])


if __name__ == "__main__":
    unittest.main()
