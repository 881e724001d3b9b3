"""[1.1] Library, and [0.3] as far as it concerns libraries."""

import unittest

from scopebind.errors import NoLibrary
from scopebind.libraries import Library
from tests.samples import Hostile, Same, no_words, words

PARTS = ["name", "needs", "defines", "uses", "weak", "eager", "own_first"]

FULL = {
    "needs": ("ui", "core"), "defines": ("put", "get"), "uses": ("log", "say"), "weak": ("say",),
    "eager": True, "own_first": True,
}


def wrong_tuples():
    """Return objects of many kinds, none of them a tuple of distinct names."""
    found = [thing for thing in no_words() if not isinstance(thing, tuple)]
    found += [(thing,) for thing in no_words()]
    found += [("put", thing) for thing in no_words()]
    found += [(thing, "put") for thing in no_words()]
    found += ["put", ["put"], {"put"}, {"put": "put"}, frozenset(["put"]), iter(("put",))]
    found += [("put", "put"), ("put", "get", "put"), ("put", "get", "get"), (("put",),), (["put"],), ({"put"},)]
    return found


def wrong_bools():
    found = [thing for thing in no_words() if not isinstance(thing, bool)]
    return found + ["True", "app"]


class LibraryTest(unittest.TestCase):
    def refuses(self, part, name, **more):
        with self.assertRaises(NoLibrary) as caught:
            Library(name, **more)
        self.assertEqual(caught.exception.part, part)

    def test_all_values_are_kept_as_passed(self):
        library = Library("app", **FULL)
        self.assertEqual(library.name, "app")
        for part in FULL:
            with self.subTest(part):
                self.assertIs(getattr(library, part), FULL[part])

    def test_each_value_alone_is_kept(self):
        for part in FULL:
            if part != "weak":
                with self.subTest(part):
                    library = Library("app", **{part: FULL[part]})
                    for other in FULL:
                        kept = FULL[part] if other == part else getattr(Library("ab"), other)
                        self.assertEqual(getattr(library, other), kept)

    def test_order_of_items_is_kept(self):
        library = Library("app", needs=("z", "a", "m"), defines=("q", "b"), uses=("y", "c", "x"), weak=("x", "y"))
        self.assertEqual(library.needs, ("z", "a", "m"))
        self.assertEqual(library.defines, ("q", "b"))
        self.assertEqual(library.uses, ("y", "c", "x"))
        self.assertEqual(library.weak, ("x", "y"))

    def test_what_is_left_out_is_empty_or_false(self):
        library = Library("app")
        for part in ["needs", "defines", "uses", "weak"]:
            self.assertEqual(getattr(library, part), ())
            self.assertIsInstance(getattr(library, part), tuple)
        self.assertIs(library.eager, False)
        self.assertIs(library.own_first, False)

    def test_all_but_the_name_are_passed_by_name(self):
        with self.assertRaises(TypeError):
            Library("app", ("core",))
        with self.assertRaises(TypeError):
            Library()

    def test_names_of_one_and_of_twelve_letters(self):
        for name in ["a", "z", "ab", "m" * 11, "a" * 12, "abcdefghijkl", "qrstuvwxyz"]:
            with self.subTest(name):
                self.assertEqual(Library(name).name, name)
                library = Library("own", needs=(name,), defines=(name,), uses=(name,), weak=(name,))
                self.assertEqual(library.needs + library.defines + library.uses + library.weak, (name,) * 4)

    def test_as_many_needs_and_symbols_as_allowed(self):
        library = Library("app", needs=words(12), defines=words(20), uses=words(20), weak=words(20))
        self.assertEqual([len(library.needs), len(library.defines)], [12, 20])
        self.assertEqual([len(library.uses), len(library.weak)], [20, 20])

    def test_one_need_or_symbol_too_many(self):
        self.refuses("needs", "app", needs=words(13))
        self.refuses("defines", "app", defines=words(21))
        self.refuses("uses", "app", uses=words(21))
        self.refuses("weak", "app", uses=words(20), weak=words(21))
        self.refuses("needs", "app", needs=words(500))

    def test_wrong_name(self):
        for at, thing in enumerate(no_words()):
            with self.subTest(at):
                self.refuses("name", thing)

    def test_wrong_tuples(self):
        for part in ["needs", "defines", "uses"]:
            for at, thing in enumerate(wrong_tuples()):
                with self.subTest(f"{part} {at}"):
                    self.refuses(part, "app", **{part: thing})

    def test_wrong_weak(self):
        for at, thing in enumerate(wrong_tuples()):
            with self.subTest(at):
                self.refuses("weak", "app", uses=("put", "get"), weak=thing)

    def test_own_name_is_no_need(self):
        for needs in [("app",), ("app", "core"), ("core", "app")]:
            self.refuses("needs", "app", needs=needs)

    def test_own_name_may_be_a_symbol(self):
        library = Library("app", defines=("app",), uses=("app",), weak=("app",))
        self.assertEqual(library.defines, ("app",))

    def test_one_symbol_may_be_defined_and_used(self):
        library = Library("app", needs=("put",), defines=("put",), uses=("put",))
        self.assertEqual([library.defines, library.uses], [("put",), ("put",)])

    def test_weak_symbols_are_uses(self):
        self.refuses("weak", "app", weak=("put",))
        self.refuses("weak", "app", defines=("put",), weak=("put",))
        self.refuses("weak", "app", uses=("put",), weak=("get",))
        self.refuses("weak", "app", uses=("put",), weak=("put", "get"))
        self.refuses("weak", "app", uses=("putget",), weak=("put",))

    def test_wrong_bools(self):
        for part in ["eager", "own_first"]:
            for at, thing in enumerate(wrong_bools()):
                with self.subTest(f"{part} {at}"):
                    self.refuses(part, "app", **{part: thing})

    def test_the_first_wrong_parameter_is_told(self):
        wrong = {"name": "App", "needs": ["core"], "defines": ("A",), "uses": {"put"}, "weak": None}
        wrong.update({"eager": 1, "own_first": 0})
        for first, one in enumerate(PARTS):
            for other in PARTS[first + 1:]:
                with self.subTest(f"{one} {other}"):
                    # Passed in the reverse order, so that the order of passing tells nothing.
                    passed = {other: wrong[other], one: wrong[one]}
                    name = passed.pop("name", "app")
                    self.refuses(one, name, **passed)
        for first, one in enumerate(PARTS):
            passed = {part: wrong[part] for part in reversed(PARTS[first:])}
            name = passed.pop("name", "app")
            self.refuses(one, name, **passed)

    def test_a_wrong_value_behind_a_hostile_one(self):
        for part in FULL:
            with self.subTest(part):
                self.refuses(part, "app", **{part: Hostile()})
        self.refuses("weak", "app", uses=("put",), weak=(Same("put"),))


class EqualTest(unittest.TestCase):
    def test_equal_if_all_values_are_equal(self):
        self.assertTrue(Library("app") == Library("app"))
        self.assertFalse(Library("app") != Library("app"))
        self.assertTrue(Library("app", **FULL) == Library("app", **FULL))
        built = Library("".join(["a", "pp"]), needs=tuple(["ui", "core"]))
        self.assertTrue(built == Library("app", needs=("ui", "core")))
        self.assertTrue(built == built)

    def test_left_out_is_the_same_as_empty(self):
        empty = Library("app", needs=(), defines=(), uses=(), weak=(), eager=False, own_first=False)
        self.assertTrue(empty == Library("app"))

    def test_unequal_if_one_value_differs(self):
        full = Library("app", **FULL)
        self.assertFalse(full == Library("ap", **FULL))
        changes = {
            "needs": [("ui",), ("core", "ui"), ()], "defines": [("put",), ("get", "put"), ()],
            "uses": [("say", "log"), ("say",), ("log", "say", "put")], "weak": [("log",), (), ("say", "log")],
            "eager": [False], "own_first": [False],
        }
        for part in FULL:
            for changed in changes[part]:
                with self.subTest(f"{part} {changed}"):
                    other = Library("app", **dict(FULL, **{part: changed}))
                    self.assertFalse(full == other)
                    self.assertFalse(other == full)
                    self.assertTrue(full != other)

    def test_the_order_of_items_counts(self):
        some = ("put", "get")
        for part in ["needs", "defines", "uses"]:
            with self.subTest(part):
                self.assertFalse(Library("app", **{part: some}) == Library("app", **{part: some[::-1]}))
        self.assertFalse(Library("app", uses=some, weak=some) == Library("app", uses=some, weak=some[::-1]))

    def test_equal_to_nothing_else(self):
        library = Library("app")
        others = [thing for thing in no_words() if not isinstance(thing, Library)]
        values = ("app", (), (), (), (), False, False)
        for at, thing in enumerate(others + ["app", values, list(values)]):
            with self.subTest(at):
                self.assertIs(library == thing, False)
                self.assertIs(library != thing, True)


if __name__ == "__main__":
    unittest.main()
