"""Forms, which tell how much of each field goes into a letter, and how a head is opened again."""

from shorthead.bits import bits_of, numbers_of
from shorthead.shapes import breadths, expected
from shorthead.things import is_between, is_row, is_value, is_worded
from shorthead.windows import around, rest_of


def is_form(shape, thing):
    """Whether a thing, of any kind, is a form of this shape."""
    if not is_row(thing, 3, 3):
        return False
    reach, count, ways = thing
    return is_between(reach, 1, 40) and is_between(count, 1, 40) and are_ways(shape, ways)


def are_ways(shape, thing):
    """Whether a thing is a tuple of ways, one for each field of this shape."""
    asked = breadths(shape)
    if not is_row(thing, len(asked), len(asked)):
        return False
    return all([is_way(way, breadth) for way, breadth in zip(thing, asked)])


def is_way(thing, breadth):
    """Whether a thing is a way of a field of this breadth."""
    if is_worded(thing, "keep", 1) or is_worded(thing, "whole", 1):
        return True
    if not is_worded(thing, "low", 3):
        return False
    return is_between(thing[1], 1, breadth) and is_value(thing[2], thing[1])


def width_of(way, breadth):
    """How many bits a way tells of a field of this breadth."""
    if way[0] == "keep":
        return 0
    if way[0] == "low":
        return way[1]
    return breadth


def widths(shape, form):
    """The list of how many bits a form tells of each field."""
    return [width_of(way, breadth) for way, breadth in zip(form[2], breadths(shape))]


def pieces(shape, form, head):
    """The bits that a form tells of a head, field by field."""
    return "".join([bits_of(rest_of(value, width), width) for value, width in zip(head, widths(shape, form))])


def size_of(shape, form):
    """How many bits a form tells of a head."""
    return sum(widths(shape, form))


def opened(shape, form, bits, former, more):
    """The head that these bits tell by a head so many letters ago."""
    head = ()
    for place, rest in enumerate(numbers_of(bits, widths(shape, form))):
        # What is expected hangs on the fields ahead as they are opened: the new head itself isn't known here.
        base = expected(shape, place, former, head, more)
        head = head + (value_told(form[2][place], shape[0][place][1], base, rest),)
    return head


def value_told(way, breadth, base, rest):
    """The value of a field of this breadth that a way tells by what is expected there and by its bits' number."""
    if way[0] == "keep":
        return base
    if way[0] == "low":
        return around(breadth, base, way[2], rest, way[1])
    return rest


def sure(shape, form, head, formers):
    """Whether a form's bits of a head are opened to that head by each of formers, a tuple of (more, former)."""
    bits = pieces(shape, form, head)
    for more, former in formers:
        if opened(shape, form, bits, former, more) != head:
            return False
    return True
