"""Things of many kinds, for what is asked of anything."""


def nested(kind, thing, deep):
    for _ in range(deep):
        thing = kind([thing])
    return thing


class Lying:
    """A thing that claims to be like all others, and like the bits."""

    def __eq__(self, other):
        return True

    def __iter__(self):
        return iter("01")

    def __len__(self):
        return 2


OTHERS = (
    None, True, False, 0, 1, 10, -1, 10 ** 29, 0.0, 1.0, 1j, b"", b"01", bytearray(b"01"), memoryview(b"01"),
    [], ["0"], ["0", "1"], (), ("0",), ("0", "1"), {}, {"0": "1"}, {0: 1}, set(), {"0"}, frozenset("01"),
    range(2), iter("01"), object(), Lying(), Lying, str, len, lambda: "01", Ellipsis, NotImplemented, ValueError("01"),
    [["0"], "1"], (("0",), ("1",)), {"0": ["1", {"1": ()}]}, [None, (True, [b"0"])],
    nested(list, "01", 60), nested(tuple, "01", 60), nested(tuple, "", 60),
)

# None of these is a whole number, whatever it is like.
NO_NUMBERS = (True, False, None, 1.0, 1j, "1", b"1", (1,), [1], {1: 1}, Lying())


def parts_otherwise(thing, *places):
    """Each tuple that has, at one of the places, another thing than a number where thing has one."""
    for place in places:
        for other in NO_NUMBERS:
            yield thing[:place] + (other,) + thing[place + 1:]


def tuples_otherwise(thing):
    """What is like this tuple but for its kind or for a part more or fewer."""
    yield list(thing)
    yield dict(enumerate(thing))
    yield (thing,)
    yield thing + (None,)
    yield (None,) + thing
    yield thing + thing[-1:]
    for place in range(len(thing)):
        yield thing[:place] + thing[place + 1:]
        yield thing[:place] + (Lying(),) + thing[place + 1:]
        yield thing[:place] + (None,) + thing[place + 1:]
