"""Doubts: papers that tell why a form is not sure of a head."""

from shorthead.forms import opened, pieces
from shorthead.things import is_between, is_row, is_whole


def doubt(shape, form, head, formers):
    """None where the form is sure of the head, else (k, place, value) for the first of formers that opens another."""
    bits = pieces(shape, form, head)
    for k, (more, former) in enumerate(formers):
        other = first_other(head, opened(shape, form, bits, former, more))
        if other is not None:
            return (k,) + other
    return None


def first_other(head, told):
    """(place, value): the first place, and the value there, that the head that is told has otherwise, or None."""
    for place, value in enumerate(told):
        if value != head[place]:
            return (place, value)
    return None


def shows_doubt(shape, form, head, formers, thing):
    """Whether a thing, of any kind, is a doubt for whichever of formers."""
    if not is_row(thing, 3, 3) or not all([is_whole(part) for part in thing]):
        return False
    if not is_between(thing[0], 0, len(formers) - 1):
        return False
    more, former = formers[thing[0]]
    told = opened(shape, form, pieces(shape, form, head), former, more)
    return thing[1:] == first_other(head, told)
