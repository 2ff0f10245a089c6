import copy
import unittest

from shorthead.shapes import check_of, expected, is_head, is_shape
from tests.others import NO_NUMBERS, OTHERS, Lying, nested, parts_otherwise, tuples_otherwise
from tests.samples import HEAD, KINDS, SHAPE, some_head, some_shape, source


def lone(breadth, kind):
    """A shape of one field."""
    return ((("a", breadth, kind),), 1)


def behind(many, kind):
    """A shape with a field of this kind behind so many still ones."""
    fields = tuple(("abcdefghijkl"[place], 8, ("still",)) for place in range(many))
    return (fields + (("zz", 8, kind),), 5)


class ShapeCase(unittest.TestCase):
    def holds(self, thing):
        self.assertIs(is_shape(thing), True, repr(thing)[:200])

    def fails(self, thing):
        self.assertIs(is_shape(thing), False, repr(thing)[:200])


class Shapes(ShapeCase):
    def test_shapes_of_all_kinds(self):
        self.holds(SHAPE)
        for kind in (("still",), ("step", 1), ("turn", (0, 1)), ("drawn",)):
            self.holds(lone(8, kind))
        self.holds(behind(1, ("with", 0, 1)))

    def test_drawn_shapes(self):
        drawn = source(1)
        for _ in range(300):
            self.holds(some_shape(drawn))

    def test_how_many_fields(self):
        self.holds(behind(0, ("still",)))
        self.holds(behind(11, ("still",)))
        self.fails(behind(12, ("still",)))
        self.fails(((), 5))

    def test_bounds_of_breadth(self):
        for kind in (("still",), ("drawn",), ("step", 0), ("step", 1), ("turn", (1, 0))):
            for breadth in (1, 2, 39, 40):
                self.holds(lone(breadth, kind))
            for breadth in (-1, 0, 41, 10 ** 29):
                self.fails(lone(breadth, kind))

    def test_bounds_of_the_check(self):
        for m in (1, 2, 10 ** 6 - 1, 10 ** 6):
            self.holds((KINDS, m))
        for m in (-1, 0, 10 ** 6 + 1, 10 ** 29):
            self.fails((KINDS, m))

    def test_a_tuple_more_fewer_or_of_another_kind(self):
        for thing in tuples_otherwise(SHAPE):
            self.fails(thing)
        for place in range(len(KINDS)):
            for field in tuples_otherwise(KINDS[place]):
                self.fails((KINDS[:place] + (field,) + KINDS[place + 1:], 17))
            for kind in tuples_otherwise(KINDS[place][2]):
                self.fails((KINDS[:place] + (KINDS[place][:2] + (kind,),) + KINDS[place + 1:], 17))
        self.fails((list(KINDS), 17))
        self.fails((dict(enumerate(KINDS)), 17))
        self.fails((KINDS[0], 17))

    def test_no_number_in_a_numbers_place(self):
        for other in NO_NUMBERS:
            self.fails((KINDS, other))
            self.fails(lone(other, ("still",)))
            self.fails(lone(8, ("step", other)))
            self.fails(lone(8, ("turn", (0, other))))
            self.fails(lone(8, ("turn", (other, 7, 8))))
            self.fails(behind(2, ("with", other, 1)))
            self.fails(behind(2, ("with", 1, other)))

    def test_things_of_other_kinds(self):
        for thing in OTHERS:
            self.fails(thing)
            self.fails((thing, 17))
            self.fails(((thing,), 17))
            self.fails((KINDS + (thing,), 17))
            self.fails((KINDS + (("more", 8, thing),), 17))
            self.fails((KINDS + ((thing, 8, ("still",)),), 17))
            self.fails((KINDS + (("more", 8, (thing,)),), 17))
            self.fails((KINDS + (("more", 8, ("turn", thing)),), 17))
            self.fails((KINDS + (("more", 8, (thing, 1)),), 17))
            self.fails((KINDS + (("more", 8, (thing, 1, 1)),), 17))
        self.fails(nested(tuple, SHAPE, 59))
        self.fails(nested(list, SHAPE, 1))

    def test_what_is_asked_stays_and_is_told_the_same_again(self):
        for thing in (SHAPE, [list(KINDS), 17], {"a": [SHAPE]}, (KINDS, 0)):
            held = copy.deepcopy(thing)
            self.assertIs(is_shape(thing), is_shape(thing))
            self.assertEqual(thing, held)


class Names(ShapeCase):
    def test_bounds_of_length(self):
        for many in range(1, 9):
            self.holds(((("q" * many, 8, ("still",)),), 1))
        for many in (0, 9, 10, 6000):
            self.fails(((("q" * many, 8, ("still",)),), 1))

    def test_each_letter_from_a_to_z_and_no_other_sign(self):
        letters = "abcdefghijklmnopqrstuvwxyz"
        others = [chr(code) for code in range(128) if chr(code) not in letters] + ["\u00e9", "\u0430", "\uff41", "\u00df"]
        for sign in letters:
            for name in (sign, "a" + sign + "z"):
                self.holds((((name, 8, ("still",)),), 1))
        for sign in others:
            for name in (sign, sign + "a", "a" + sign, "a" + sign + "z"):
                self.fails((((name, 8, ("still",)),), 1))

    def test_names_of_other_kinds(self):
        for name in (b"a", ("a",), ["a"], ("a", "b"), None, 1, True, Lying(), {"a": 1}):
            self.fails((((name, 8, ("still",)),), 1))

    def test_names_alike(self):
        first, second = ("same", 8, ("still",)), ("same", 9, ("drawn",))
        other = ("other", 8, ("still",))
        for fields in ((first, first), (first, second), (first, other, second), (other, first, second)):
            self.fails((fields, 5))
        self.holds(((("same", 8, ("still",)), ("sam", 8, ("still",)), ("sames", 8, ("still",))), 5))


class Kinds(ShapeCase):
    def test_words_of_kinds(self):
        for word in ("", "Still", "still ", "keep", "low", "whole", "walk", b"still", None, 1, ["still"]):
            for kind in ((word,), (word, 1), (word, (0, 1)), (word, 0, 1), word):
                self.fails(behind(1, kind))

    def test_a_part_more_or_fewer(self):
        for kind in (
            (), ("still", 1), ("drawn", 1), ("step",), ("step", 1, 1), ("turn",), ("turn", 0, 1), ("turn", (0, 1), 1),
            ("with",), ("with", 0), ("with", 0, 1, 1), ("still", "still"), ("still", None),
        ):
            self.fails(behind(1, kind))

    def test_bounds_of_a_step(self):
        for breadth in (1, 2, 8, 40):
            for s in {0, 1, 2 ** breadth - 1}:
                self.holds(lone(breadth, ("step", s)))
            for s in (-1, 2 ** breadth, 2 ** breadth + 1, 10 ** 29):
                self.fails(lone(breadth, ("step", s)))

    def test_how_many_values_a_turn_has(self):
        for many in range(2, 13):
            self.holds(lone(8, ("turn", tuple(range(many)))))
            self.holds(lone(8, ("turn", tuple(range(255, 255 - many, -1)))))
        for many in (0, 1, 13, 14, 200):
            self.fails(lone(8, ("turn", tuple(range(many)))))

    def test_bounds_of_a_turns_values(self):
        for breadth in (1, 2, 8, 40):
            self.holds(lone(breadth, ("turn", (2 ** breadth - 1, 0))))
            for value in (-1, 2 ** breadth, 10 ** 29):
                self.fails(lone(breadth, ("turn", (0, value))))
                self.fails(lone(breadth, ("turn", (value, 1, 0))))

    def test_values_of_a_turn_alike(self):
        for row in ((0, 0), (3, 1, 3), (1, 2, 3, 4, 5, 6, 7, 8, 9, 10, 11, 1)):
            self.fails(lone(8, ("turn", row)))

    def test_a_turns_row_of_another_kind(self):
        for row in ([0, 1], {0: 1, 1: 0}, "01", b"01", {0, 1}, range(2), 2, None, ((0, 1),), Lying()):
            self.fails(lone(8, ("turn", row)))

    def test_where_a_with_looks(self):
        for place in range(12):
            for f in range(-13, 14):
                thing = behind(place, ("with", f, 1))
                self.assertIs(is_shape(thing), 0 <= f < place, (place, f))

    def test_a_with_may_look_at_a_field_of_any_kind(self):
        for place in range(len(KINDS)):
            self.holds((KINDS + (("more", 8, ("with", place, 1)),), 17))

    def test_bounds_of_a_withs_number(self):
        for s in (-99, -98, -1, 0, 1, 98, 99):
            self.holds(behind(1, ("with", 0, s)))
        for s in (-10 ** 29, -101, -100, 100, 101, 10 ** 29):
            self.fails(behind(1, ("with", 0, s)))


class Heads(unittest.TestCase):
    def holds(self, shape, thing):
        self.assertIs(is_head(shape, thing), True, repr(thing)[:200])

    def fails(self, shape, thing):
        self.assertIs(is_head(shape, thing), False, repr(thing)[:200])

    def test_bounds_of_each_value(self):
        self.holds(SHAPE, HEAD)
        for place, (_, breadth, _) in enumerate(KINDS):
            top = 2 ** breadth
            for value in (0, 1, top - 1):
                self.holds(SHAPE, HEAD[:place] + (value,) + HEAD[place + 1:])
            for value in (-10 ** 29, -top, -1, top, top + 1, 10 ** 29):
                self.fails(SHAPE, HEAD[:place] + (value,) + HEAD[place + 1:])

    def test_bounds_of_each_breadth(self):
        for breadth in range(1, 41):
            shape = lone(breadth, ("still",))
            self.holds(shape, (0,))
            self.holds(shape, (2 ** breadth - 1,))
            self.fails(shape, (2 ** breadth,))
            self.fails(shape, (-1,))

    def test_no_number_in_a_values_place(self):
        for thing in parts_otherwise(HEAD, *range(5)):
            self.fails(SHAPE, thing)

    def test_a_value_more_or_fewer_or_another_kind(self):
        for thing in tuples_otherwise(HEAD):
            self.fails(SHAPE, thing)
        self.fails(SHAPE, ())
        self.fails(lone(8, ("still",)), ())
        self.fails(lone(8, ("still",)), (1, 1))
        self.fails(lone(8, ("still",)), [1])
        self.fails(lone(8, ("still",)), 1)

    def test_a_turn_may_have_a_value_that_is_none_of_its_row(self):
        self.holds(SHAPE, (0, 15, 0, 0, 0))

    def test_things_of_other_kinds(self):
        for thing in OTHERS:
            self.fails(SHAPE, thing)
            self.fails(SHAPE, (thing,) + HEAD)
            self.fails(lone(8, ("still",)), thing)
        self.fails(SHAPE, nested(tuple, HEAD, 59))

    def test_drawn_heads(self):
        drawn = source(2)
        for _ in range(300):
            shape = some_shape(drawn)
            self.holds(shape, some_head(drawn, shape))

    def test_what_is_asked_stays_and_is_told_the_same_again(self):
        for thing in (HEAD, list(HEAD), {"a": [HEAD]}):
            held = copy.deepcopy(thing)
            self.assertIs(is_head(SHAPE, thing), is_head(SHAPE, thing))
            self.assertEqual(thing, held)


class Expected(unittest.TestCase):
    def test_still_and_drawn_stay(self):
        for kind in (("still",), ("drawn",)):
            for value in (0, 1, 77, 255):
                for more in (1, 2, 17, 400):
                    self.assertEqual(expected(lone(8, kind), 0, (value,), (), more), value)

    def test_a_step_grows_and_goes_round(self):
        for s, former, more, value in (
            (3, 10, 1, 13), (3, 10, 4, 22), (3, 10, 400, (10 + 1200) % 256), (1, 255, 1, 0), (1, 254, 1, 255),
            (255, 5, 1, 4), (255, 5, 6, 255), (0, 9, 400, 9), (128, 0, 2, 0), (128, 0, 3, 128),
        ):
            with self.subTest((s, former, more)):
                self.assertEqual(expected(lone(8, ("step", s)), 0, (former,), (), more), value)
        self.assertEqual(expected(lone(40, ("step", 2 ** 40 - 1)), 0, (3,), (), 400), (3 - 400) % 2 ** 40)

    def test_a_turn_goes_round_its_row(self):
        row = (9, 2, 5)
        shape = lone(4, ("turn", row))
        for place, value in enumerate(row):
            for more in (1, 2, 3, 4, 5, 6, 29, 30, 31, 398, 399, 400):
                self.assertEqual(expected(shape, 0, (value,), (), more), row[(place + more) % 3])

    def test_a_turn_at_the_last_of_its_row(self):
        self.assertEqual(expected(lone(4, ("turn", (9, 2, 5))), 0, (5,), (), 1), 9)
        self.assertEqual(expected(lone(4, ("turn", (9, 2))), 0, (2,), (), 1), 9)
        self.assertEqual(expected(lone(4, ("turn", tuple(range(12)))), 0, (11,), (), 1), 0)

    def test_a_turn_at_a_value_that_is_none_of_its_row(self):
        for value in (0, 1, 3, 4, 15):
            for more in (1, 2, 3, 400):
                self.assertEqual(expected(lone(4, ("turn", (9, 2, 5))), 0, (value,), (), more), value)

    def test_a_with_goes_with_another_field(self):
        for s, former, ahead, value in (
            (2, (10, 50), 13, 56), (-2, (10, 50), 13, 44), (2, (13, 50), 10, 44), (-2, (13, 50), 10, 56),
            (7, (10, 50), 10, 50), (0, (10, 50), 200, 50), (1, (255, 0), 0, 1), (1, (0, 0), 255, 255),
            (99, (0, 1), 255, (1 + 99 * 255) % 256), (-99, (0, 1), 255, (1 - 99 * 255) % 256), (1, (1, 255), 2, 0),
        ):
            shape = ((("a", 8, ("still",)), ("b", 8, ("with", 0, s))), 1)
            for more in (1, 2, 400):
                with self.subTest((s, former, ahead, more)):
                    self.assertEqual(expected(shape, 1, former, (ahead,), more), value)

    def test_a_with_of_another_breadth_than_its_fields(self):
        # Going from 15 back to 0 is 15 below, not one above: only a breadth of 4 can't tell these apart.
        for breadth, value in ((4, 8), (5, (7 - 15) % 32), (8, (7 - 15) % 256), (40, (7 - 15) % 2 ** 40)):
            shape = ((("a", 4, ("step", 1)), ("b", breadth, ("with", 0, 1))), 1)
            self.assertEqual(expected(shape, 1, (15, 7), (0,), 1), value)
        narrow = ((("a", 8, ("step", 1)), ("b", 2, ("with", 0, 3))), 1)
        self.assertEqual(expected(narrow, 1, (10, 1), (21,), 1), (1 + 3 * 11) % 4)

    def test_a_with_looks_at_its_own_field(self):
        fields = tuple((name, 8, ("still",)) for name in "abcd")
        for f in range(4):
            shape = (fields + (("e", 8, ("with", f, 1)),), 1)
            for place in range(4):
                ahead = tuple(5 + (place == other) for other in range(4))
                self.assertEqual(expected(shape, 4, (5, 5, 5, 5, 9), ahead, 1), 10 if place == f else 9)

    def test_each_place_is_asked_by_itself(self):
        former = (250, 5, 40, 3, 31)
        told = [expected(SHAPE, place, former, (4, 2, 40, 9)[:place], 2) for place in range(5)]
        self.assertEqual(told, [0, 2, 40, (3 - 2 * (4 - 250)) % 256, 31])

    def test_it_is_a_value_of_the_breadth(self):
        drawn = source(3)
        for _ in range(300):
            shape = some_shape(drawn)
            former, head = some_head(drawn, shape), some_head(drawn, shape)
            told = tuple(
                expected(shape, place, former, head[:place], drawn.choice((1, 2, 40, 400))) for place in range(len(head))
            )
            self.assertIs(is_head(shape, told), True)


class Check(unittest.TestCase):
    def test_as_they_stand(self):
        for m, number, head, check in (
            (1, 5, (10, 2, 40, 200, 31), 0), (17, 0, (0, 0, 0, 0, 0), 0), (17, 16, (0, 0, 0, 0, 0), 16),
            (17, 17, (0, 0, 0, 0, 0), 0), (10 ** 6, 5, (10, 2, 40, 200, 31), 5 + 20 + 6 + 160 + 1000 + 186),
            (1000, 5, (10, 2, 40, 200, 31), 377), (2, 1, (0, 1, 0, 1, 0), 1), (2, 1, (0, 1, 0, 0, 0), 0),
        ):
            with self.subTest((m, number, head)):
                self.assertEqual(check_of((KINDS, m), number, head), check)

    def test_each_place_counts_by_its_own_number(self):
        for place in range(5):
            head = tuple(int(place == other) for other in range(5))
            self.assertEqual(check_of((KINDS, 10 ** 6), 0, head), place + 2)

    def test_with_m_of_one_it_is_nought(self):
        drawn = source(4)
        for _ in range(50):
            fields = some_shape(drawn)[0]
            self.assertEqual(check_of((fields, 1), drawn.randrange(10 ** 30), some_head(drawn, (fields, 1))), 0)

    def test_numbers_of_thirty_figures(self):
        for number in (10 ** 29, 10 ** 30 - 1, 123456789012345678901234567890):
            for m in (1, 2, 17, 999983, 10 ** 6):
                self.assertEqual(check_of((KINDS, m), number, HEAD), (number + 1372) % m)

    def test_great_values(self):
        shape = ((("a", 40, ("still",)), ("b", 40, ("still",))), 999983)
        top = 2 ** 40 - 1
        self.assertEqual(check_of(shape, 7, (top, top)), (7 + 5 * top) % 999983)

    def test_it_is_below_m(self):
        drawn = source(5)
        for _ in range(200):
            shape = some_shape(drawn)
            self.assertTrue(0 <= check_of(shape, drawn.randrange(2 ** 40), some_head(drawn, shape)) < shape[1])


if __name__ == "__main__":
    unittest.main()
