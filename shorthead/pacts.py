"""Pacts, which both ends have: a shape, the width of numbers, forms, and what a road may do."""

from shorthead.forms import is_form
from shorthead.shapes import is_shape
from shorthead.things import is_between, is_row


def is_pact(thing):
    """Whether a thing, of any kind, is a pact."""
    if not is_row(thing, 4, 4):
        return False
    shape, wide, forms, road = thing
    return is_shape(shape) and is_wide(wide) and are_forms(shape, forms) and is_road(road)


def is_wide(thing):
    """Whether a thing is a width of a whole letter's number."""
    return is_between(thing, 1, 40)


def are_forms(shape, thing):
    """Whether a thing is the tuple of a pact's forms, all of this shape."""
    return is_row(thing, 0, 12) and all([is_form(shape, form) for form in thing])


def is_road(thing):
    """Whether a thing is (skips, gap, late, anew), the part of a pact that bounds its road."""
    if not is_row(thing, 4, 4):
        return False
    skips, gap, late, anew = thing
    # gap is asked behind skips, which bounds it only where it is a whole number itself.
    if not is_between(skips, 0, 39) or not is_between(gap, skips, 400):
        return False
    return is_between(late, 0, 20) and is_between(anew, 0, 400)
