"""The interface of scopebind/errors.py."""

import unittest

from scopebind import errors
from tests.samples import no_words

VALUES = {
    "NoLibrary": "part", "NoStore": "at", "NoName": "name", "Missing": "name", "NoSymbol": "symbol",
    "NoPreloads": "at", "NotLoaded": "name", "NotUsed": "symbol", "Unresolved": "use", "NoHandle": "handle",
    "NoWishes": "symbol",
}


class ErrorsTest(unittest.TestCase):
    def test_base_stands_straight_under_value_error(self):
        self.assertEqual(errors.LoadError.__bases__, (ValueError,))

    def test_each_stands_straight_under_the_base(self):
        for word in VALUES:
            with self.subTest(word):
                self.assertEqual(getattr(errors, word).__bases__, (errors.LoadError,))

    def test_there_are_these_eleven(self):
        self.assertEqual(len(VALUES), 11)
        found = {item.__name__ for item in errors.LoadError.__subclasses__()}
        self.assertEqual(found, set(VALUES))

    def test_none_is_under_another_one(self):
        for one in VALUES:
            for other in VALUES:
                with self.subTest(f"{one} {other}"):
                    under = issubclass(getattr(errors, one), getattr(errors, other))
                    self.assertEqual(under, one == other)

    def test_the_attribute_is_the_passed_object(self):
        for word, value in VALUES.items():
            for at, thing in enumerate(no_words() + ["app", ("app", "put"), ["put"], {"put": "app"}]):
                with self.subTest(f"{word} {at}"):
                    error = getattr(errors, word)(thing)
                    self.assertIs(getattr(error, value), thing)
                    self.assertEqual([key for key in vars(error)], [value])

    def test_the_attribute_is_there_when_caught(self):
        for word, value in VALUES.items():
            with self.subTest(word):
                thing = [word]
                with self.assertRaises(errors.LoadError) as caught:
                    raise getattr(errors, word)(thing)
                self.assertIs(getattr(caught.exception, value), thing)

    def test_each_takes_exactly_its_value(self):
        for word in VALUES:
            with self.subTest(word):
                with self.assertRaises(TypeError):
                    getattr(errors, word)()
                with self.assertRaises(TypeError):
                    getattr(errors, word)("app", "core")


if __name__ == "__main__":
    unittest.main()
