"""Doubts: papers that tell why a form is not sure of a head."""

from shorthead.forms import opened, pieces
from shorthead.things import is_between, is_row, is_whole


def doubt(shape, form, head, formers):
    """None where the form is sure of the head, else (k, place, value) for the first of formers that opens another."""
    for k in range(len(formers)):
        found = doubt_by(shape, form, head, formers, k)
        if found is not None:
            return found
    return None


def doubt_by(shape, form, head, formers, k):
    """(k, place, value): the first place, and the value there, that the k-th of formers opens otherwise, or None."""
    more, former = formers[k]
    told = opened(shape, form, pieces(shape, form, head), former, more)
    for place, value in enumerate(told):
        if value != head[place]:
            return (k, place, value)
    return None


def shows_doubt(shape, form, head, formers, thing):
    """Whether a thing, of any kind, is a doubt for whichever of formers."""
    if not is_row(thing, 3, 3) or not all([is_whole(part) for part in thing]):
        return False
    if not is_between(thing[0], 0, len(formers) - 1):
        return False
    return thing == doubt_by(shape, form, head, formers, thing[0])
