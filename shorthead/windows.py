"""Windows: numbers told by their rests, and values that go round."""

from shorthead.bits import width_for


def rest_of(number, width):
    """The number's rest by two to the power of width, from 0 on for numbers below nought too."""
    return number % (1 << width)


def windowed(least, rest, width):
    """The one number with this rest in the window of this width that begins with least."""
    return least + rest_of(rest - least, width)


def around(w, base, below, rest, width):
    """The value of breadth w that a base tells by a window that begins below ahead of it."""
    return rest_of(windowed(base - below, rest, width), w)


def narrowest(w, below, bases, value):
    """The least width with which each of the bases tells value out of value's own rest."""
    # A base tells value just where value's way from the window's begin, going round, is within the window.
    ways = [rest_of(value - base + below, w) for base in bases]
    return width_for(1 + max(ways, default=0))


def tightest(w, offsets):
    """(width, below): the least width, with it the least below, whose window holds all the offsets."""
    # Were the least below neither 0 nor one that brings an offset to 0, the below one less would do as well.
    belows = [0] + [rest_of(-offset, w) for offset in offsets]
    return min([(width_with(w, offsets, below), below) for below in belows])


def width_with(w, offsets, below):
    """The least width that has room for below itself and for each offset put to it."""
    return width_for(1 + max([below] + [rest_of(offset + below, w) for offset in offsets]))
