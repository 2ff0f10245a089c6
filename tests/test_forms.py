import copy
import unittest

from shorthead.forms import is_form, opened, pieces, size_of, sure
from shorthead.shapes import is_head
from shorthead.windows import tightest
from tests.others import OTHERS, nested, parts_otherwise, tuples_otherwise
from tests.samples import FORM, HEAD, KINDS, SHAPE, some_form, some_head, some_shape, source

KEEP, WHOLE = ("keep",), ("whole",)


def lone(breadth, kind=("still",)):
    """A shape of one field."""
    return ((("a", breadth, kind),), 1)


def one_way(way):
    """A form of one way."""
    return (1, 1, (way,))


class FormCase(unittest.TestCase):
    def holds(self, shape, thing):
        self.assertIs(is_form(shape, thing), True, repr(thing)[:200])

    def fails(self, shape, thing):
        self.assertIs(is_form(shape, thing), False, repr(thing)[:200])


class Forms(FormCase):
    def test_forms_as_they_stand(self):
        self.holds(SHAPE, FORM)
        self.holds(SHAPE, (1, 1, (KEEP,) * 5))
        self.holds(SHAPE, (40, 40, (WHOLE,) * 5))

    def test_bounds_of_reach_and_count(self):
        ways = FORM[2]
        for number in (1, 2, 39, 40):
            self.holds(SHAPE, (number, 3, ways))
            self.holds(SHAPE, (3, number, ways))
        for number in (-10 ** 29, -1, 0, 41, 42, 10 ** 29):
            self.fails(SHAPE, (number, 3, ways))
            self.fails(SHAPE, (3, number, ways))

    def test_no_number_in_a_numbers_place(self):
        for thing in parts_otherwise(FORM, 0, 1):
            self.fails(SHAPE, thing)
        for way in parts_otherwise(("low", 2, 1), 1, 2):
            self.fails(lone(8), one_way(way))

    def test_bounds_of_width(self):
        for breadth in range(1, 41):
            for width in range(-1, breadth + 3):
                for below in (0, 1):
                    thing = one_way(("low", width, below))
                    self.assertIs(is_form(lone(breadth), thing), 1 <= width <= breadth, (breadth, width))
            self.fails(lone(breadth), one_way(("low", 10 ** 29, 0)))

    def test_each_field_has_its_own_breadth(self):
        for place, (_, breadth, _) in enumerate(KINDS):
            ahead, behind = (KEEP,) * place, (WHOLE,) * (4 - place)
            self.holds(SHAPE, (1, 1, ahead + (("low", breadth, 0),) + behind))
            self.fails(SHAPE, (1, 1, ahead + (("low", breadth + 1, 0),) + behind))

    def test_bounds_of_below(self):
        for width in range(1, 41):
            top = 2 ** width
            for breadth in {width, 40}:
                for below in (0, 1, top // 2, top - 1):
                    self.holds(lone(breadth), one_way(("low", width, below)))
                for below in (-10 ** 29, -top, -1, top, top + 1, 10 ** 29):
                    self.fails(lone(breadth), one_way(("low", width, below)))

    def test_words_of_ways(self):
        for word in ("", "Keep", "keep ", "still", "lows", "=", "*", b"keep", None, 1, ["keep"]):
            for way in ((word,), (word, 1), (word, 1, 1), word):
                self.fails(lone(8), one_way(way))
        for way in ("keep", "whole", "low"):
            self.fails(lone(8), one_way(way))

    def test_a_part_more_or_fewer_or_another_kind(self):
        for thing in tuples_otherwise(FORM):
            self.fails(SHAPE, thing)
        for ways in tuples_otherwise(FORM[2]):
            self.fails(SHAPE, (4, 3, ways))
        for way in (KEEP, WHOLE, ("low", 2, 1)):
            for other in tuples_otherwise(way):
                self.fails(lone(8), one_way(other))
        for way in ((), ("keep", 0), ("keep", 1, 0), ("whole", 8), ("whole", 8, 0), ("low",), ("low", 1), ("low", 1, 0, 0)):
            self.fails(lone(8), one_way(way))

    def test_ways_more_or_fewer(self):
        for many in range(1, 13):
            shape = (tuple(("abcdefghijkl"[place], 8, ("still",)) for place in range(many)), 5)
            for ways in range(15):
                for way in (KEEP, WHOLE, ("low", 1, 1)):
                    self.assertIs(is_form(shape, (1, 1, (way,) * ways)), ways == many)

    def test_things_of_other_kinds(self):
        for thing in OTHERS:
            self.fails(SHAPE, thing)
            self.fails(SHAPE, (1, 1, thing))
            self.fails(SHAPE, (4, 3, FORM[2][:4] + (thing,)))
            self.fails(lone(8), one_way(thing))
            self.fails(lone(8), one_way((thing,)))
            self.fails(lone(8), one_way((thing, 1, 1)))
        self.fails(SHAPE, nested(tuple, FORM, 58))
        self.fails(SHAPE, (1, 1, nested(tuple, FORM[2], 58)))

    def test_drawn_forms(self):
        drawn = source(1)
        for _ in range(300):
            shape = some_shape(drawn)
            self.holds(shape, some_form(drawn, shape))

    def test_what_is_asked_stays_and_is_told_the_same_again(self):
        for thing in (FORM, list(FORM), {"a": [FORM]}):
            held = copy.deepcopy(thing)
            self.assertIs(is_form(SHAPE, thing), is_form(SHAPE, thing))
            self.assertEqual(thing, held)


class Pieces(unittest.TestCase):
    def test_as_they_stand(self):
        for ways, bits in (
            ((KEEP,) * 5, ""),
            ((WHOLE,) * 5, "00001010" + "0010" + "101000" + "11001000" + "11111"),
            (FORM[2], "" + "10" + "" + "000" + "11111"),
            ((("low", 1, 0), ("low", 4, 15), ("low", 6, 0), ("low", 8, 200), ("low", 5, 1)), "0001010100011001000" + "11111"),
            ((("low", 3, 0), KEEP, WHOLE, KEEP, ("low", 2, 3)), "010" + "101000" + "11"),
        ):
            with self.subTest(ways):
                self.assertEqual(pieces(SHAPE, (4, 3, ways), HEAD), bits)
                self.assertEqual(size_of(SHAPE, (4, 3, ways)), len(bits))

    def test_low_writes_the_rest_whatever_its_below(self):
        for value in (0, 1, 77, 128, 255):
            for width in range(1, 9):
                for below in {0, 1, 2 ** width - 1}:
                    told = pieces(lone(8), one_way(("low", width, below)), (value,))
                    self.assertEqual(told, format(value % 2 ** width, "b").zfill(width))

    def test_size_hangs_on_the_ways_alone(self):
        for reach in (1, 7, 40):
            for count in (1, 9, 40):
                self.assertEqual(size_of(SHAPE, (reach, count, FORM[2])), 2 + 3 + 5)
        self.assertEqual(size_of(SHAPE, (1, 1, (KEEP,) * 5)), 0)
        self.assertEqual(size_of(SHAPE, (1, 1, (WHOLE,) * 5)), 8 + 4 + 6 + 8 + 5)

    def test_drawn_ones(self):
        drawn = source(2)
        for _ in range(300):
            shape = some_shape(drawn)
            form, head = some_form(drawn, shape), some_head(drawn, shape)
            rows = []
            for (_, breadth, _), way, value in zip(shape[0], form[2], head):
                width = {"keep": 0, "low": (way + (0,))[1], "whole": breadth}[way[0]]
                rows.append(format(value, "b").zfill(breadth)[breadth - width:])
            self.assertEqual(pieces(shape, form, head), "".join(rows))
            self.assertEqual(size_of(shape, form), sum(map(len, rows)))


def looked_for(kind, breadth, place, former, head, more):
    """What is expected, told anew by the document's words."""
    told = {
        "still": lambda: former[place],
        "drawn": lambda: former[place],
        "step": lambda: former[place] + more * kind[1],
        "turn": lambda: dict(zip(kind[1], (kind[1] * 401)[more:])).get(former[place], former[place]),
        "with": lambda: former[place] + kind[2] * (head[kind[1]] - former[kind[1]]),
    }
    return told[kind[0]]() % 2 ** breadth


def opened_by_all(shape, form, bits, former, more):
    """The head opened, each window gone through from its begin on."""
    head = []
    for place, ((_, breadth, kind), way) in enumerate(zip(shape[0], form[2])):
        base = looked_for(kind, breadth, place, former, head, more)
        if way == KEEP:
            head.append(base)
            continue
        width = breadth if way == WHOLE else way[1]
        rest, bits = int(bits[:width], 2), bits[width:]
        if way == WHOLE:
            head.append(rest)
            continue
        found = [base - way[2] + at for at in range(2 ** width) if (base - way[2] + at) % 2 ** width == rest]
        head.append(found[0] % 2 ** breadth)
    return tuple(head)


class Opened(unittest.TestCase):
    def test_as_it_stands(self):
        former = (7, 9, 40, 206, 0)
        bits = pieces(SHAPE, FORM, HEAD)
        self.assertEqual(opened(SHAPE, FORM, bits, former, 1), HEAD)
        # Two letters ahead the kept step is 13, so the with is looked for at 206 - 12, the turn at 5.
        self.assertEqual(opened(SHAPE, FORM, bits, former, 2), (13, 6, 40, 192, 31))

    def test_a_form_that_keeps_all(self):
        form = (1, 1, (KEEP,) * 5)
        former = (250, 5, 40, 3, 31)
        for more, head in ((1, (253, 9, 40, 253, 31)), (2, (0, 2, 40, 247, 31)), (3, (3, 5, 40, 241, 31))):
            self.assertEqual(opened(SHAPE, form, "", former, more), head)

    def test_a_form_that_tells_all_whole(self):
        form = (1, 1, (WHOLE,) * 5)
        drawn = source(3)
        for _ in range(100):
            head, former = some_head(drawn, SHAPE), some_head(drawn, SHAPE)
            bits = pieces(SHAPE, form, head)
            self.assertEqual(opened(SHAPE, form, bits, former, drawn.randint(1, 400)), head)

    def test_a_with_behind_each_way_goes_by_what_is_opened(self):
        shape = ((("a", 8, ("step", 1)), ("b", 8, ("with", 0, 2))), 1)
        for way, bits, head in (
            (KEEP, "", (11, 52)), (WHOLE, "00010100", (20, 70)), (("low", 2, 1), "10", (10, 50)), (("low", 2, 0), "10", (14, 58)),
        ):
            self.assertEqual(opened(shape, (1, 1, (way, KEEP)), bits, (10, 50), 1), head)

    def test_windows_of_every_width_and_below(self):
        for breadth in (1, 2, 3, 4):
            for width in range(1, breadth + 1):
                for below in range(2 ** width):
                    form = one_way(("low", width, below))
                    for former in range(2 ** breadth):
                        told = [opened(lone(breadth), form, format(rest, "b").zfill(width), (former,), 1) for rest in range(2 ** width)]
                        window = [((former - below + at) % 2 ** breadth,) for at in range(2 ** width)]
                        self.assertEqual(sorted(told), sorted(window))
                        self.assertEqual([head[0] % 2 ** width for head in told], list(range(2 ** width)))

    def test_windows_of_great_breadths(self):
        top = 2 ** 40
        for width in (1, 2, 13, 39, 40):
            for below in (0, 1, 2 ** width - 1):
                form = one_way(("low", width, below))
                for former in (0, 1, top // 2, top - 1):
                    for at in (0, 1, below, 2 ** width - 1):
                        head = ((former - below + at) % top,)
                        self.assertEqual(opened(lone(40), form, pieces(lone(40), form, head), (former,), 1), head)

    def test_drawn_ones_held_against_going_through_each_window(self):
        drawn = source(4)
        for _ in range(500):
            shape = some_shape(drawn, 7)
            form = some_form(drawn, shape)
            former = some_head(drawn, shape)
            bits = "".join(drawn.choice("01") for _ in range(size_of(shape, form)))
            more = drawn.choice((1, 2, 3, 40, 400))
            told = opened(shape, form, bits, former, more)
            self.assertEqual(told, opened_by_all(shape, form, bits, former, more))
            self.assertIs(is_head(shape, told), True)

    def test_pieces_are_opened_again_where_the_head_lies_in_the_windows(self):
        drawn = source(5)
        for _ in range(200):
            shape = some_shape(drawn, 7)
            head, former = some_head(drawn, shape), some_head(drawn, shape)
            more = drawn.choice((1, 2, 40, 400))
            ways = []
            for place, (_, breadth, kind) in enumerate(shape[0]):
                base = looked_for(kind, breadth, place, former, head, more)
                width, below = tightest(breadth, ((head[place] - base) % 2 ** breadth,))
                ways.append(("low", width, below) if width else KEEP)
            form = (1, 1, tuple(ways))
            self.assertEqual(opened(shape, form, pieces(shape, form, head), former, more), head)
            self.assertIs(sure(shape, form, head, ((more, former),)), True)

    def test_just_beyond_a_window_another_head_is_opened(self):
        for width in range(1, 8):
            for below in (0, 1, 2 ** width - 1):
                form = one_way(("low", width, below))
                for offset in (-below - 1, 2 ** width - below):
                    head = ((100 + offset) % 256,)
                    self.assertNotEqual(opened(lone(8), form, pieces(lone(8), form, head), (100,), 1), head)
                    self.assertIs(sure(lone(8), form, head, ((1, (100,)),)), False)
                for offset in (-below, 2 ** width - below - 1):
                    self.assertIs(sure(lone(8), form, ((100 + offset) % 256,), ((1, (100,)),)), True)


class Sure(unittest.TestCase):
    def test_of_no_formers(self):
        for form in (FORM, (1, 1, (KEEP,) * 5), (1, 1, (WHOLE,) * 5)):
            self.assertIs(sure(SHAPE, form, HEAD, ()), True)

    def test_by_each_of_the_formers(self):
        shape = lone(8, ("step", 3))
        form = one_way(KEEP)
        formers = tuple((more, ((60 - 3 * more) % 256,)) for more in range(1, 41))
        self.assertIs(sure(shape, form, (60,), formers), True)
        for at in range(40):
            wrong = formers[:at] + ((at + 1, (0,)),) + formers[at + 1:]
            self.assertIs(sure(shape, form, (60,), wrong), at == 19)

    def test_more_is_told_by_the_formers_and_not_by_their_places(self):
        shape = lone(8, ("step", 3))
        self.assertIs(sure(shape, one_way(KEEP), (60,), ((5, (45,)), (2, (54,)))), True)
        self.assertIs(sure(shape, one_way(KEEP), (60,), ((2, (45,)), (5, (54,)))), False)

    def test_each_field_counts(self):
        form = (1, 1, (KEEP,) * 5)
        former = (250, 5, 40, 3, 31)
        head = (253, 9, 40, 253, 31)
        self.assertIs(sure(SHAPE, form, head, ((1, former),)), True)
        for place in range(5):
            other = head[:place] + (head[place] ^ 1,) + head[place + 1:]
            self.assertIs(sure(SHAPE, form, other, ((1, former),)), False)

    def test_a_form_that_tells_all_whole_is_sure(self):
        drawn = source(6)
        for _ in range(50):
            shape = some_shape(drawn)
            formers = tuple((more, some_head(drawn, shape)) for more in range(1, 10))
            form = (1, 1, (WHOLE,) * len(shape[0]))
            self.assertIs(sure(shape, form, some_head(drawn, shape), formers), True)

    def test_drawn_ones(self):
        drawn = source(7)
        told = []
        for _ in range(400):
            shape = some_shape(drawn, 3)
            form, head = some_form(drawn, shape), some_head(drawn, shape)
            formers = tuple((drawn.randint(1, 400), some_head(drawn, shape)) for _ in range(drawn.randint(1, 3)))
            bits = pieces(shape, form, head)
            told.append(sure(shape, form, head, formers))
            self.assertIs(told[-1], all(opened_by_all(shape, form, bits, former, more) == head for more, former in formers))
        self.assertTrue(20 < sum(told) < 380)


if __name__ == "__main__":
    unittest.main()
