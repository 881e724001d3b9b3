"""[1.2] Store and names, and [0.3] as far as it concerns stores."""

import unittest

from scopebind.errors import NoName, NoStore
from scopebind.libraries import Library, Store, names
from tests.samples import Same, example_libraries, example_store, no_strings, no_words, words


def libraries_of(many):
    return [Library(word) for word in words(many)]


class StoreTest(unittest.TestCase):
    def refuses(self, at, libraries):
        with self.assertRaises(NoStore) as caught:
            Store(libraries)
        self.assertEqual(caught.exception.at, at)
        self.assertNotIsInstance(caught.exception.at, bool)

    def test_none_one_and_forty_libraries(self):
        for many in [0, 1, 2, 39, 40]:
            with self.subTest(many):
                store = Store(libraries_of(many))
                self.assertEqual(len(store), many)
                self.assertEqual(names(store), list(words(many)))

    def test_the_41st_is_refused(self):
        self.refuses(40, libraries_of(41))
        self.refuses(40, libraries_of(60))

    def test_the_first_fault_before_and_behind_the_41st(self):
        self.refuses(40, libraries_of(45) + [None])
        self.refuses(40, libraries_of(40) + [None])
        self.refuses(40, libraries_of(40) + [Library("aa")])
        self.refuses(39, libraries_of(39) + [None] + libraries_of(3))
        self.refuses(39, libraries_of(39) + [Library("aa")] + libraries_of(3))

    def test_an_item_that_is_no_library(self):
        things = [thing for thing in no_words() if not isinstance(thing, Library)] + ["app"]
        for index, thing in enumerate(things):
            with self.subTest(index):
                self.refuses(0, [thing])
                self.refuses(1, [Library("app"), thing])
                self.refuses(2, [Library("app"), Library("core"), thing, thing])

    def test_a_name_that_occurred_before(self):
        app = Library("app")
        self.refuses(1, [app, app])
        self.refuses(1, [app, Library("app", defines=("put",))])
        self.refuses(3, [app, Library("core"), Library("ui"), Library("core")])

    def test_several_faults_at_once(self):
        app = Library("app")
        self.refuses(1, [app, None, app])
        self.refuses(1, [app, app, None])
        self.refuses(0, [[], app, app])
        self.refuses(0, [None] * 60)

    def test_an_argument_that_is_no_list(self):
        things = [thing for thing in no_words() if not isinstance(thing, list)]
        app = Library("app")
        things += [(app,), {"app": app}, {0: app}, iter([app]), "app", Store([app]), app]
        for index, thing in enumerate(things):
            with self.subTest(index):
                self.refuses(None, thing)

    def test_a_needed_library_may_be_absent(self):
        store = Store([Library("app", needs=("core", "ui"))])
        self.assertEqual(names(store), ["app"])
        self.assertFalse("core" in store)

    def test_get_a_library(self):
        libraries = example_libraries()
        store = Store(libraries)
        for library in libraries:
            self.assertEqual(store[library.name], library)
            self.assertEqual(store[library.name].name, library.name)
        self.assertEqual(store["".join(["u", "i"])], libraries[1])

    def test_get_what_is_not_there(self):
        store = example_store()
        for index, thing in enumerate(no_words() + ["apps", "ap", "zzz", "put"]):
            with self.subTest(index):
                with self.assertRaises(NoName) as caught:
                    store[thing]
                self.assertIs(caught.exception.name, thing)

    def test_get_from_an_empty_store(self):
        with self.assertRaises(NoName) as caught:
            Store([])["app"]
        self.assertEqual(caught.exception.name, "app")

    def test_in(self):
        store = example_store()
        for name in ["app", "ui", "core", "extra", "log"]:
            self.assertIs(name in store, True)
        for index, thing in enumerate(no_words() + ["apps", "ap", "zzz", "put"]):
            with self.subTest(index):
                self.assertIs(thing in store, False)
        self.assertIs("app" in Store([]), False)

    def test_what_claims_to_be_a_name_is_none(self):
        store = example_store()
        for name in names(store):
            thing = Same(name)
            self.assertIs(thing in store, False)
            with self.assertRaises(NoName) as caught:
                store[thing]
            self.assertIs(caught.exception.name, thing)

    def test_names_are_sorted(self):
        self.assertEqual(names(example_store()), ["app", "core", "extra", "log", "ui"])
        store = Store([Library(name) for name in ["b", "aa", "z", "a", "ab", "aab"]])
        self.assertEqual(names(store), ["a", "aa", "aab", "ab", "b", "z"])
        self.assertEqual(names(Store([])), [])

    def test_the_passed_list_may_change(self):
        libraries = example_libraries()
        store = Store(libraries)
        self.assertEqual(libraries, example_libraries())
        libraries.append(Library("new"))
        libraries[0] = Library("other")
        del libraries[1]
        self.assertEqual(names(store), ["app", "core", "extra", "log", "ui"])
        self.assertEqual(len(store), 5)
        self.assertEqual(store["app"], example_libraries()[0])
        self.assertFalse("new" in store or "other" in store)
        self.assertTrue("ui" in store)

    def test_the_returned_list_may_change(self):
        store = example_store()
        names(store).clear()
        told = names(store)
        told.append("new")
        told[0] = "other"
        self.assertEqual(names(store), ["app", "core", "extra", "log", "ui"])
        self.assertIsNot(names(store), names(store))
        self.assertEqual(len(store), 5)
        self.assertFalse("new" in store)

    def test_an_error_changes_nothing(self):
        store = example_store()
        for thing in no_strings():
            with self.assertRaises(NoName):
                store[thing]
        self.assertEqual(names(store), ["app", "core", "extra", "log", "ui"])
        libraries = example_libraries() + [None]
        with self.assertRaises(NoStore):
            Store(libraries)
        self.assertEqual(libraries, example_libraries() + [None])

    def test_stores_stand_alone(self):
        first = Store([Library("app")])
        second = Store([Library("core")])
        self.assertEqual([names(first), names(second)], [["app"], ["core"]])


if __name__ == "__main__":
    unittest.main()
