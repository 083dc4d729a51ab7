"""Tells whether any value has one of the forms that all parts of the document use."""

LETTERS = "abcdefghijklmnopqrstuvwxyz"
LETTERS_AND_DIGITS = "abcdefghijklmnopqrstuvwxyz0123456789"
LONGEST_NAME = 8


def is_integer(thing):
    """Whether thing is an int that is not a bool."""
    return isinstance(thing, int) and not isinstance(thing, bool)


def is_tuple_of(thing, length):
    """Whether thing is a tuple with this number of items."""
    return isinstance(thing, tuple) and len(thing) == length


def are_items(thing, has_form):
    """Whether thing is a tuple whose items all have the form that has_form tests."""
    return isinstance(thing, tuple) and all(has_form(item) for item in thing)


def is_name(thing):
    """Whether thing is a name: 1 to 8 letters and digits, beginning with a letter."""
    if not isinstance(thing, str) or not 1 <= len(thing) <= LONGEST_NAME:
        return False
    return thing[0] in LETTERS and all(sign in LETTERS_AND_DIGITS for sign in thing)


def is_integer_from(thing, least):
    """Whether thing is an integer that is not below least."""
    return is_integer(thing) and thing >= least


def is_one_of(thing, known):
    """Whether thing is one of the known strings, a list, a tuple or a dict."""
    return isinstance(thing, str) and thing in known


def are_ascending(thing, known):
    """Whether thing is a tuple of some of the known strings, sorted, none of them twice."""
    if not are_items(thing, lambda item: is_one_of(item, known)):
        return False
    return list(thing) == sorted(set(thing))


def is_same(thing, other):
    """Whether two values are equal, of which the other one has tuples, strings and integers: no bool equals one."""
    if isinstance(thing, tuple) and isinstance(other, tuple):
        return len(thing) == len(other) and all([is_same(one, two) for one, two in zip(thing, other)])
    return thing == other and not isinstance(thing, bool)
