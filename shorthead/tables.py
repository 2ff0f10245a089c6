"""Tables: what a pact's forms cost for given heads, forms that would do, and the best few of them."""

from shorthead.letters import letter_size
from shorthead.pressers import Presser, former_heads
from shorthead.shapes import breadths, expected
from shorthead.windows import rest_of, tightest


def costs(pact, heads):
    """The tuple of the sizes of the letters that a presser tells of these heads, hearing nothing."""
    presser = Presser(pact)
    return tuple([len(presser.press(head)) for head in heads])


def proposed(shape, heads, reach, count):
    """The rising tuple of unlike forms by which each head but the first is told in the fewest bits and surely."""
    rows = [ways_for(shape, heads[at], former_heads(heads[:at], reach)) for at in range(1, len(heads))]
    return tuple([(reach, count, ways) for ways in sorted(set(rows))])


def ways_for(shape, head, formers):
    """The tuple of the ways by which each field of a head is told surely by all of formers."""
    ways = []
    for place, breadth in enumerate(breadths(shape)):
        # Here the fields ahead are the head's own: what is told of them is opened to just these.
        bases = [expected(shape, place, former, head[:place], more) for more, former in formers]
        ways.append(way_for(breadth, tuple([rest_of(head[place] - base, breadth) for base in bases])))
    return tuple(ways)


def way_for(breadth, offsets):
    """The way of a field of this breadth whose window holds all of these offsets from what is expected."""
    width, below = tightest(breadth, offsets)
    if width == 0:
        return ("keep",)
    if width < breadth:
        return ("low", width, below)
    return ("whole",)


def least_table(pact, heads, most):
    """(places, bits): the places of at most most forms by which alone these heads cost least, and that cost."""
    rows = usable_rows(pact, heads)
    tried = [(bits_with(pact, rows, places), len(places), places) for places in rising_tuples(len(pact[2]), most)]
    least = min(tried)
    return (least[2], least[0])


def usable_rows(pact, heads):
    """For each head the places of the forms that may go, which don't hang on what other forms there are."""
    presser = Presser(pact)
    rows = []
    for head in heads:
        rows.append(presser.usable(head))
        presser.press(head)
    return rows


def rising_tuples(many, most):
    """All rising tuples of at most most numbers below many."""
    rows = [()]
    for number in range(many):
        rows = rows + [row + (number,) for row in rows if len(row) < most]
    return rows


def bits_with(pact, rows, places):
    """How many bits all heads cost by the forms of these places alone, rows telling which may go for each."""
    shape, wide, forms, road = pact
    alone = (shape, wide, tuple([forms[at] for at in places]), road)
    whole = letter_size(alone, None)
    sizes = {at: letter_size(alone, place) for place, at in enumerate(places)}
    return sum([min([whole] + [sizes[at] for at in row if at in sizes]) for row in rows])
