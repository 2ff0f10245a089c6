"""Shapes, heads, forms and pacts to ask about, some written out and some drawn by a number."""

import random
import string

from shorthead.shapes import expected

KINDS = (
    ("serial", 8, ("step", 3)),
    ("lamp", 4, ("turn", (9, 2, 5))),
    ("house", 6, ("still",)),
    ("weight", 8, ("with", 0, -2)),
    ("seal", 5, ("drawn",)),
)
SHAPE = (KINDS, 17)
HEAD = (10, 2, 40, 200, 31)
FORM = (4, 3, (("keep",), ("low", 2, 1), ("keep",), ("low", 3, 4), ("whole",)))
PACT = (SHAPE, 16, (FORM, (1, 1, (("whole",),) * 5), FORM), (2, 6, 3, 50))


def some_kind(drawn, place, breadth):
    top = 2 ** breadth
    kinds = ["still", "step", "drawn", "turn"] + (["with"] if place else [])
    kind = drawn.choice(kinds)
    if kind == "step":
        return (kind, drawn.choice((0, 1, top - 1, drawn.randrange(top))))
    if kind == "turn":
        row = set()
        while len(row) < min(top, 2 + drawn.randrange(11)):
            row.add(drawn.randrange(top))
        row = list(row)
        drawn.shuffle(row)
        return (kind, tuple(row))
    if kind == "with":
        return (kind, drawn.randrange(place), drawn.randint(-99, 99))
    return (kind,)


def some_shape(drawn, broadest=40):
    fields = []
    for place, name in enumerate(drawn.sample(string.ascii_lowercase, drawn.randint(1, 12))):
        breadth = drawn.randint(1, broadest)
        fields.append((name * drawn.randint(1, 8), breadth, some_kind(drawn, place, breadth)))
    return (tuple(fields), drawn.choice((1, 2, 256, 10 ** 6, drawn.randint(1, 10 ** 6))))


def some_head(drawn, shape):
    head = []
    for _, breadth, kind in shape[0]:
        if kind[0] == "turn" and drawn.randrange(4):
            head.append(drawn.choice(kind[1]))
        else:
            head.append(drawn.choice((0, 2 ** breadth - 1, drawn.randrange(2 ** breadth))))
    return tuple(head)


def some_way(drawn, breadth):
    word = drawn.choice(("keep", "low", "low", "whole"))
    if word != "low":
        return (word,)
    width = drawn.choice((1, breadth, drawn.randint(1, breadth)))
    return (word, width, drawn.choice((0, 2 ** width - 1, drawn.randrange(2 ** width))))


def some_form(drawn, shape):
    ways = tuple(some_way(drawn, breadth) for _, breadth, _ in shape[0])
    return (drawn.randint(1, 40), drawn.randint(1, 40), ways)


def some_pact(drawn):
    shape = some_shape(drawn)
    forms = tuple(some_form(drawn, shape) for _ in range(drawn.randint(0, 12)))
    skips = drawn.randint(0, 39)
    road = (skips, drawn.randint(skips, 400), drawn.randint(0, 20), drawn.randint(0, 400))
    return (shape, drawn.randint(1, 40), forms, road)


def source(number):
    return random.Random(number)


def likely_way(drawn, breadth):
    """A way by which a field that goes as it is expected to, or nearly so, is told in few bits."""
    word = drawn.choice(("keep", "keep", "keep", "low", "whole"))
    if word != "low":
        return (word,)
    width = drawn.randint(1, min(breadth, 4))
    return (word, width, drawn.randrange(2 ** width))


def likely_pact(drawn, late=4, anews=(0, 0, 1, 2, 5, 17, 40)):
    """A pact of few fields whose forms often may go, by roads that lose and overtake now and then."""
    shape = (some_shape(drawn, 10)[0][:drawn.randint(1, 4)], drawn.choice((1, 2, 3, 50, 10 ** 6)))
    forms = []
    for _ in range(drawn.choice((0, 1, 2, 3, 3, 5, 12))):
        ways = tuple(likely_way(drawn, breadth) for _, breadth, _ in shape[0])
        forms.append((drawn.choice((1, 2, 3, 5, 9, 40)), drawn.choice((1, 2, 3, 3, 4, 5, 9)), ways))
    skips = drawn.choice((0, 0, 1, 2, 3))
    road = (skips, skips + drawn.choice((0, 0, 1, 3, 9)), drawn.randint(0, late), drawn.choice(anews))
    return (shape, drawn.choice((9, 12, 20, 40)), tuple(forms), road)


def next_head(drawn, shape, former):
    """A head that goes on from a former one, mostly as each field is expected to."""
    head = ()
    for place, (_, breadth, _) in enumerate(shape[0]):
        value = expected(shape, place, former, head, 1)
        chance = drawn.randrange(24)
        if chance == 0:
            value = drawn.randrange(2 ** breadth)
        elif chance < 3:
            value = (value + drawn.randint(-2, 3)) % 2 ** breadth
        head += (value,)
    return head


def some_heads(drawn, shape, many):
    """So many heads in a row, each going on from the one ahead."""
    heads = [some_head(drawn, shape)]
    while len(heads) < many:
        heads.append(next_head(drawn, shape, heads[-1]))
    return heads[:many]
