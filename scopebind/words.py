"""Words: names and symbols have the same form."""

LONGEST = 12


def is_word(thing):
    """Tell whether thing, of any kind, is a name or, what is the same, a symbol."""
    if not isinstance(thing, str) or not 1 <= len(thing) <= LONGEST:
        return False
    return all(["a" <= letter <= "z" for letter in thing])


def are_words(thing, most):
    """Tell whether thing, of any kind, is a tuple of distinct words, at most so many."""
    if not isinstance(thing, tuple) or len(thing) > most:
        return False
    # The items are compared only once all are known to be words: others may have no equality.
    if not all([is_word(item) for item in thing]):
        return False
    return all([thing.count(word) == 1 for word in thing])
