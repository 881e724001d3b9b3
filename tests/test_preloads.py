"""[7.1] to [7.3]: wishes that a process meets, and the least preloads that meet them."""

import itertools
import random
import unittest

from scopebind.closures import closure
from scopebind.errors import Missing, NoName, NoWishes
from scopebind.libraries import Library, Store, names
from scopebind.preloads import least_preloads, meets
from scopebind.process import Process
from tests.samples import Hostile, Same, example_store, no_strings, no_words, process_kept, words


def first_definer(store, scope, symbol):
    found = [name for name in scope if symbol in store[name].defines]
    return found[0] if found else None


def scope_of(store, main, preloads):
    """Return the global scope at the start; what only preloads need does not matter."""
    return [main, *preloads] + [name for name in closure(store, main)[1:] if name not in preloads]


def scope_meets(store, scope, wishes):
    return all(first_definer(store, scope, symbol) == wishes[symbol] for symbol in wishes)


def starts(store, main):
    """Tell whether no library of the closure is absent."""
    try:
        closure(store, main)
    except Missing:
        return False
    return True


def all_preloads(store, main):
    others = [name for name in names(store) if name != main]
    for many in range(len(others) + 1):
        yield from itertools.permutations(others, many)


def required(store, main, wishes):
    """Return the sorted list of the required libraries, by the words of 7.3."""
    scope = closure(store, main)
    found = {name for symbol, name in wishes.items() if first_definer(store, scope, symbol) != name}
    while True:
        more = {
            name for symbol, name in wishes.items() for other in found
            if symbol in store[other].defines and name not in (other, main)
        }
        if more <= found:
            return sorted(found)
        found |= more


def key_sorts():
    """Return objects of many kinds that may be keys, none of them a string."""
    found = []
    for thing in no_strings():
        try:
            hash(thing)
        except (TypeError, RuntimeError):
            continue
        found.append(thing)
    return found


class WishesCase(unittest.TestCase):
    def refuses(self, symbol, wishes):
        store = example_store()
        process = Process(store, "app")
        for ask in [lambda: meets(process, wishes), lambda: least_preloads(store, "app", wishes)]:
            with self.assertRaises(NoWishes) as caught:
                ask()
            self.assertEqual(caught.exception.symbol, symbol)

    def check(self, store, main, wishes):
        """Ask least_preloads and check the answer by the words of 7.2; return it."""
        kept = dict(wishes)
        told = least_preloads(store, main, wishes)
        self.assertEqual(list(wishes.items()), list(kept.items()))
        self.assertIsInstance(told, tuple)
        kind, what = told
        undefined = sorted(symbol for symbol, name in wishes.items() if symbol not in store[name].defines)
        by_main = sorted(symbol for symbol, name in wishes.items() if name != main and symbol in store[main].defines)
        if undefined:
            self.assertEqual(told, ("undefined", undefined[0]))
        elif by_main:
            self.assertEqual(told, ("main", by_main[0]))
        elif kind == "order":
            self.assertIsInstance(what, list)
            self.assertEqual(sorted(what), required(store, main, wishes))
            self.assertTrue(scope_meets(store, scope_of(store, main, what), wishes))
        else:
            self.assertEqual(kind, "ring")
            self.check_ring(store, main, wishes, what)
        return told

    def check_ring(self, store, main, wishes, pairs):
        self.assertIsInstance(pairs, list)
        self.assertGreaterEqual(len(pairs), 2)
        self.assertEqual(len({name for name, _ in pairs}), len(pairs))
        needed = required(store, main, wishes)
        for at, (name, symbol) in enumerate(pairs):
            follower = pairs[(at + 1) % len(pairs)][0]
            self.assertEqual(wishes[symbol], name)
            self.assertIn(symbol, store[follower].defines)
            self.assertIn(name, needed)


class MeetsTest(WishesCase):
    def test_the_first_definer_in_the_global_scope(self):
        process = Process(example_store(), "app")
        self.assertIs(meets(process, {"put": "ui", "get": "core"}), True)
        self.assertIs(meets(process, {"put": "core"}), False)
        self.assertIs(meets(process, {"put": "ui", "get": "extra"}), False)
        self.assertIs(meets(process, {"log": "log"}), False)
        self.assertIs(meets(process, {"zzz": "app"}), False)
        self.assertIs(meets(process, {}), True)

    def test_with_preloads_and_after_openings(self):
        process = Process(example_store(), "app", preloads=("extra",))
        self.assertIs(meets(process, {"get": "extra", "put": "ui"}), True)
        self.assertIs(meets(process, {"log": "log"}), False)
        process.attach("log")
        self.assertIs(meets(process, {"log": "log"}), False)
        process.attach("log", spread=True)
        self.assertIs(meets(process, {"log": "log"}), True)

    def test_nothing_is_changed(self):
        process = Process(example_store(), "app")
        kept = process_kept(process)
        wishes = {"put": "ui", "get": "extra"}
        meets(process, wishes)
        self.assertEqual(wishes, {"put": "ui", "get": "extra"})
        self.assertEqual(process_kept(process), kept)

    def test_wishes_that_are_no_dict(self):
        for at, thing in enumerate([thing for thing in no_words() if not isinstance(thing, dict)]):
            with self.subTest(at):
                self.refuses(None, thing)
        for thing in [[("put", "ui")], ("put", "ui"), "put", None, {"put"}]:
            self.refuses(None, thing)

    def test_keys_that_are_no_strings(self):
        for at, thing in enumerate(key_sorts()):
            with self.subTest(at):
                self.refuses(None, {thing: "ui"})
                self.refuses(None, {"put": "ui", thing: "zzz"})
                self.refuses(None, {"": None, thing: None, "A": []})
                self.refuses(None, {thing: thing})

    def test_keys_that_are_no_symbols(self):
        for thing in [thing for thing in no_words() if isinstance(thing, str)]:
            with self.subTest(repr(thing)):
                self.refuses(thing, {thing: "ui"})
                self.refuses(thing, {"put": "ui", thing: "ui", "get": "core"})
        self.refuses("A", {"put": None, "b" * 13: "ui", "A": "ui", "a": "ui"})
        self.refuses("", {"a": None, "": "ui", "A": "ui"})

    def test_values_that_are_no_names(self):
        for at, thing in enumerate(no_words() + ["zzz", "put", Same("ui"), Hostile(), [], {}]):
            with self.subTest(at):
                self.refuses("put", {"put": thing})
                self.refuses("get", {"put": thing, "get": thing, "zzz": thing})
                self.refuses("put", {"zzz": thing, "get": "core", "put": thing})
        self.refuses("b", {"c": None, "b": "zzz", "a": "ui"})
        self.refuses("b", {"d": "ui", "bb": None, "b": None})


class LeastTest(WishesCase):
    def test_examples(self):
        store = example_store()
        self.assertEqual(least_preloads(store, "app", {"get": "extra"}), ("order", ["extra"]))
        self.assertEqual(least_preloads(store, "app", {"log": "core"}), ("undefined", "log"))
        self.assertEqual(least_preloads(store, "app", {}), ("order", []))
        self.assertEqual(least_preloads(store, "app", {"put": "ui", "get": "core"}), ("order", []))
        self.assertEqual(least_preloads(store, "app", {"put": "core"}), ("order", ["core"]))
        self.assertEqual(least_preloads(store, "app", {"log": "log", "get": "extra"}), ("order", ["extra", "log"]))

    def test_undefined_and_main(self):
        store = Store([
            Library("app", needs=("one",), defines=("put", "get", "log")), Library("one", defines=("put", "say", "get")),
        ])
        self.assertEqual(self.check(store, "app", {"put": "one"}), ("main", "put"))
        self.assertEqual(self.check(store, "app", {"put": "one", "get": "one"}), ("main", "get"))
        self.assertEqual(self.check(store, "app", {"put": "app", "get": "one", "say": "one"}), ("main", "get"))
        self.assertEqual(self.check(store, "app", {"put": "app", "get": "app", "say": "one"}), ("order", []))
        self.assertEqual(self.check(store, "app", {"put": "one", "zzz": "one"}), ("undefined", "zzz"))
        self.assertEqual(self.check(store, "app", {"zzz": "one", "say": "app", "get": "one"}), ("undefined", "say"))
        self.assertEqual(self.check(store, "app", {"log": "one"}), ("undefined", "log"))

    def test_one_required_library_requires_another_one(self):
        store = Store([
            Library("app", needs=("core",)), Library("core", defines=("put",)),
            Library("one", defines=("put", "get")), Library("two", defines=("get", "put")),
            Library("three", defines=("get",)),
        ])
        # core is first for put, until one is preloaded for get.
        self.assertEqual(self.check(store, "app", {"put": "core"}), ("order", []))
        self.assertEqual(self.check(store, "app", {"put": "core", "get": "one"}), ("order", ["core", "one"]))
        self.assertEqual(self.check(store, "app", {"put": "core", "get": "three"}), ("order", ["three"]))
        self.assertEqual(self.check(store, "app", {"put": "one", "get": "three"}), ("order", ["three", "one"]))
        self.assertEqual(self.check(store, "app", {"put": "one", "get": "two"})[0], "ring")

    def test_a_library_of_the_closure_is_required_by_what_is_required(self):
        store = Store([
            Library("app", needs=("low",)), Library("low", defines=("pa", "pb")), Library("a", defines=("pa", "pc")),
            Library("b", defines=("pc", "pd")), Library("c", defines=("pd",)),
        ])
        wishes = {"pd": "b", "pc": "a", "pa": "low"}
        self.assertEqual(self.check(store, "app", wishes), ("order", ["low", "a", "b"]))

    def test_at_each_place_the_least_name(self):
        store = Store([
            Library("app"), Library("z", defines=("pa",)), Library("y", defines=("pa", "pb")), Library("b", defines=("pb",)),
            Library("a", defines=("pc", "pa")), Library("c", defines=("pd", "pc")), Library("m", defines=("pd",)),
        ])
        wishes = {"pa": "z", "pb": "y", "pc": "a", "pd": "c"}
        self.assertEqual(self.check(store, "app", wishes), ("order", ["z", "a", "c", "y"]))
        self.assertEqual(self.check(store, "app", {"pb": "b", "pa": "y", "pd": "m"}), ("order", ["b", "m", "y"]))
        self.assertEqual(self.check(store, "app", {"pd": "m", "pc": "c"}), ("order", ["m", "c"]))

    def test_rings(self):
        store = Store([
            Library("app", needs=("far",)), Library("far"), Library("a", defines=("pa", "pb")),
            Library("b", defines=("pb", "pc")), Library("c", defines=("pc", "pa")), Library("d", defines=("pd",)),
            Library("e", defines=("pe", "pc")),
        ])
        wishes = {"pa": "a", "pb": "b", "pc": "c", "pd": "d", "pe": "e"}
        kind, pairs = self.check(store, "app", wishes)
        self.assertEqual([kind, sorted(pairs)], ["ring", [("a", "pa"), ("b", "pb"), ("c", "pc")]])
        self.assertEqual(self.check(store, "app", {"pa": "a", "pb": "b", "pc": "b"}), ("order", ["b", "a"]))

    def test_main_stands_ahead_of_all(self):
        store = Store([
            Library("app", defines=("put",)), Library("one", defines=("put", "get")), Library("two", defines=("put",)),
        ])
        self.assertEqual(self.check(store, "app", {"put": "app", "get": "one"}), ("order", ["one"]))

    def test_libraries_that_only_preloads_need_may_be_absent(self):
        store = Store([
            Library("app", needs=("core",)), Library("core", defines=("put",)),
            Library("one", needs=("absent", "two"), defines=("put",)), Library("two", needs=("gone",), defines=("get",)),
        ])
        self.assertEqual(self.check(store, "app", {"put": "one", "get": "two"}), ("order", ["one", "two"]))
        with self.assertRaises(Missing) as caught:
            least_preloads(store, "one", {"put": "one"})
        self.assertEqual(caught.exception.name, "absent")

    def test_what_a_preload_needs_is_not_in_the_global_scope(self):
        store = Store([
            Library("app"), Library("one", needs=("two",), defines=("put",)), Library("two", defines=("get",)),
        ])
        self.assertEqual(self.check(store, "app", {"put": "one"}), ("order", ["one"]))
        self.assertEqual(self.check(store, "app", {"put": "one", "get": "two"}), ("order", ["one", "two"]))

    def test_a_process_with_these_preloads_meets_the_wishes(self):
        store = example_store()
        for wishes in [{"get": "extra"}, {"put": "core"}, {"put": "core", "get": "extra"}, {"log": "log"}, {}]:
            kind, row = least_preloads(store, "app", wishes)
            self.assertEqual(kind, "order")
            self.assertTrue(meets(Process(store, "app", preloads=tuple(row)), wishes))

    def test_errors_in_their_order(self):
        store = Store([Library("app"), Library("bad", needs=("absent",)), Library("one", defines=("put",))])
        for at, thing in enumerate(no_words() + ["zzz", "absent", Same("app")]):
            for wishes in [{}, None, {"put": "zzz"}, {1: 2}]:
                with self.subTest(at):
                    with self.assertRaises(NoName) as caught:
                        least_preloads(store, thing, wishes)
                    self.assertIs(caught.exception.name, thing)
        for wishes in [{}, None, {"put": "zzz"}, {1: 2}]:
            with self.assertRaises(Missing) as caught:
                least_preloads(store, "bad", wishes)
            self.assertEqual(caught.exception.name, "absent")
        with self.assertRaises(NoWishes) as caught:
            least_preloads(store, "app", {"put": "zzz", "get": "one"})
        self.assertEqual(caught.exception.symbol, "put")

    def test_the_lists_are_new(self):
        store = example_store()
        wishes = {"get": "extra"}
        least_preloads(store, "app", wishes)[1].append("log")
        self.assertEqual(least_preloads(store, "app", wishes), ("order", ["extra"]))
        self.assertEqual(wishes, {"get": "extra"})

    def test_the_order_of_the_wishes_does_not_matter(self):
        rng = random.Random(7)
        for _ in range(60):
            store, wishes = self.drawn(rng, 6, 5)
            turned = dict(reversed(list(wishes.items())))
            if starts(store, "a"):
                self.assertEqual(least_preloads(store, "a", wishes), least_preloads(store, "a", turned))

    def drawn(self, rng, many, symbols):
        """Return a store with main a and wishes, most of which are defined by the wished library."""
        row, signs = list("abcdefghij"[:many]), words(symbols)
        libraries = []
        for at, name in enumerate(row):
            needs = rng.sample(row[at + 1:], min(rng.randint(0, 2), many - at - 1))
            defines = rng.sample(signs, rng.randint(0, 3)) if at else rng.sample(signs, rng.choice([0, 0, 1]))
            if at == many - 1 and rng.random() < 0.2:
                needs.append("absent")
            libraries.append(Library(name, needs=tuple(needs), defines=tuple(defines)))
        wishes = {}
        for symbol in rng.sample(signs, rng.randint(0, symbols)):
            able = [library.name for library in libraries if symbol in library.defines]
            if able or rng.random() < 0.1:
                wishes[symbol] = rng.choice(able if able and rng.random() < 0.97 else row)
        return Store(libraries), wishes

    def test_against_all_tuples_of_preloads(self):
        told = {"order": 0, "ring": 0, "main": 0, "undefined": 0}
        for seed in range(400):
            rng = random.Random(seed)
            store, wishes = self.drawn(rng, rng.choice([3, 4, 5]), 4)
            if not starts(store, "a"):
                continue
            kind, what = self.check(store, "a", wishes)
            told[kind] += 1
            good = [some for some in all_preloads(store, "a") if scope_meets(store, scope_of(store, "a", some), wishes)]
            if kind != "order":
                self.assertEqual(good, [])
                continue
            for some in good:
                self.assertLessEqual(set(what), set(some))
            self.assertEqual(tuple(what), min(some for some in good if len(some) == len(what)))
        self.assertGreater(min(told.values()), 10, told)

    def test_forty_libraries_and_twenty_wishes(self):
        row, signs = words(40), words(60)[40:]
        kinds = {}
        for seed in range(60):
            rng = random.Random(seed)
            libraries = [Library(row[0], needs=row[1:8])]
            for at, name in enumerate(row[1:], 1):
                # Mostly a library defines later symbols alone, so that not all wishes end in rings.
                some = signs if rng.random() < 0.02 * (seed % 3) else signs[at // 2:]
                needs = ("absent",) if at > 8 else ()
                libraries.append(Library(name, needs=needs, defines=tuple(rng.sample(some, min(len(some), 4)))))
            wishes = {}
            for symbol in rng.sample(signs, 20):
                able = [library.name for library in libraries if symbol in library.defines]
                if able:
                    wishes[symbol] = min(able) if rng.random() < 0.8 else rng.choice(able)
            kind = self.check(Store(libraries), row[0], wishes)[0]
            kinds[kind] = kinds.get(kind, 0) + 1
        self.assertGreater(kinds.get("order", 0), 3, kinds)
        self.assertGreater(kinds.get("ring", 0), 3, kinds)


if __name__ == "__main__":
    unittest.main()
