"""Shapes, which tell the fields of heads, and heads, which hold a value for each field."""

from shorthead.things import is_between, is_row, is_value, is_worded
from shorthead.windows import rest_of


def is_shape(thing):
    """Whether a thing, of any kind, is a shape."""
    return is_row(thing, 2, 2) and are_fields(thing[0]) and is_between(thing[1], 1, 10 ** 6)


def are_fields(thing):
    """Whether a thing is the tuple of a shape's fields, whose names are unlike."""
    if not is_row(thing, 1, 12):
        return False
    for place, field in enumerate(thing):
        if not is_field(field, place):
            return False
    return len({field[0] for field in thing}) == len(thing)


def is_field(thing, place):
    """Whether a thing is a field that may stand at this place of a shape."""
    if not is_row(thing, 3, 3):
        return False
    name, breadth, kind = thing
    return is_name(name) and is_between(breadth, 1, 40) and is_kind(kind, place, breadth)


def is_name(thing):
    """Whether a thing is a field's name."""
    if not isinstance(thing, str) or not 1 <= len(thing) <= 8:
        return False
    return all(["a" <= sign <= "z" for sign in thing])


def is_kind(thing, place, breadth):
    """Whether a thing is a kind of a field of this breadth at this place."""
    if is_worded(thing, "still", 1) or is_worded(thing, "drawn", 1):
        return True
    if is_worded(thing, "step", 2):
        return is_value(thing[1], breadth)
    if is_worded(thing, "turn", 2):
        return is_turn(thing[1], breadth)
    if is_worded(thing, "with", 3):
        return is_between(thing[1], 0, place - 1) and is_between(thing[2], -99, 99)
    return False


def is_turn(thing, breadth):
    """Whether a thing is a row of unlike values of this breadth, in which a field goes round."""
    if not is_row(thing, 2, 12):
        return False
    if not all([is_value(value, breadth) for value in thing]):
        return False
    return len(set(thing)) == len(thing)


def breadths(shape):
    """The list of the fields' breadths."""
    return [field[1] for field in shape[0]]


def is_head(shape, thing):
    """Whether a thing, of any kind, is a head of this shape."""
    asked = breadths(shape)
    if not is_row(thing, len(asked), len(asked)):
        return False
    return all([is_value(value, breadth) for value, breadth in zip(thing, asked)])


def expected(shape, place, former, ahead, more):
    """What is looked for at a place by a head so many letters ago, ahead being the new values up to the place."""
    breadth, kind = shape[0][place][1:]
    value = former[place]
    if kind[0] == "step":
        return rest_of(value + kind[1] * more, breadth)
    if kind[0] == "turn":
        return turned(kind[1], value, more)
    if kind[0] == "with":
        # How far the other field went is not taken by a rest: it may have gone back, and its breadth may be another.
        gone = ahead[kind[1]] - former[kind[1]]
        return rest_of(value + kind[2] * gone, breadth)
    return value


def turned(row, value, more):
    """What stands so many places behind a value in a row that goes round; the value itself where the row lacks it."""
    if value not in row:
        return value
    return row[(row.index(value) + more) % len(row)]


def check_of(shape, number, head):
    """The check of a letter with this number and this head."""
    return (number + sum([(place + 2) * value for place, value in enumerate(head)])) % shape[1]
