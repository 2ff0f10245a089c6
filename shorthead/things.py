"""What a thing, of any kind, is asked to be: a whole number, a value, a tuple of some length."""


def is_whole(thing):
    """Whether a thing is a whole number, and no truth."""
    return isinstance(thing, int) and not isinstance(thing, bool)


def is_between(thing, least, most):
    """Whether a thing is a whole number from least to most."""
    return is_whole(thing) and least <= thing <= most


def is_value(thing, breadth):
    """Whether a thing is a value of this breadth."""
    return is_between(thing, 0, (1 << breadth) - 1)


def is_row(thing, least, most):
    """Whether a thing is a tuple of least to most parts."""
    return isinstance(thing, tuple) and least <= len(thing) <= most


def is_worded(thing, word, many):
    """Whether a thing is a tuple of so many parts, the first of them this word."""
    # A part of another kind may claim to be like any text, so its kind is asked ahead of ==.
    return is_row(thing, many, many) and isinstance(thing[0], str) and thing[0] == word
