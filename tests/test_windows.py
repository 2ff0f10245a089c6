import itertools
import random
import unittest

from shorthead.bits import width_for
from shorthead.windows import around, narrowest, rest_of, tightest, windowed


def windowed_by_all(least, rest, width):
    found = [number for number in range(least, least + 2 ** width) if (number - rest) % 2 ** width == 0]
    assert len(found) == 1
    return found[0]


def around_by_all(w, base, below, rest, width):
    return windowed_by_all(base - below, rest, width) % 2 ** w


def narrowest_by_all(w, below, bases, value):
    for width in range(w + 1):
        rest = value % 2 ** width
        if all(around(w, base, below, rest, width) == value for base in bases):
            return width
    raise AssertionError("no width tells the value")


def tightest_by_all(w, offsets):
    for width in range(w + 1):
        for below in range(2 ** width):
            if all((offset + below) % 2 ** w < 2 ** width for offset in offsets):
                return (width, below)
    raise AssertionError("no window holds the offsets")


class RestOf(unittest.TestCase):
    def test_as_they_stand(self):
        for number, width, rest in (
            (0, 0, 0), (5, 0, 0), (-5, 0, 0), (0, 3, 0), (7, 3, 7), (8, 3, 0), (13, 3, 5), (-1, 3, 7), (-8, 3, 0),
            (-9, 3, 7), (-13, 3, 3), (-1, 64, 2 ** 64 - 1), (2 ** 64, 64, 0), (10 ** 29, 1, 0), (-10 ** 29 - 1, 1, 1),
        ):
            with self.subTest((number, width)):
                self.assertEqual(rest_of(number, width), rest)

    def test_a_rest_is_in_its_bounds_and_a_whole_number_of_times_away(self):
        for width in (0, 1, 2, 5, 40, 64):
            for number in (-10 ** 29, -2 ** 64 - 1, -2 ** 40, -33, -2, -1, 0, 1, 2, 31, 32, 2 ** 40 - 1, 10 ** 30 - 1):
                rest = rest_of(number, width)
                self.assertTrue(0 <= rest < 2 ** width)
                self.assertEqual((number - rest) // 2 ** width * 2 ** width, number - rest)

    def test_the_rest_is_whole_and_no_truth(self):
        for number in (-1, 0, 1):
            self.assertIs(type(rest_of(number, 1)), int)


class Windowed(unittest.TestCase):
    def test_as_they_stand(self):
        for least, rest, width, number in (
            (0, 0, 0, 0), (9, 0, 0, 9), (-9, 0, 0, -9), (0, 5, 3, 5), (5, 5, 3, 5), (6, 5, 3, 13), (-3, 5, 3, -3),
            (-3, 6, 3, -2), (-3, 4, 3, 4), (-1, 7, 3, -1), (-1, 6, 3, 6), (-8, 0, 3, -8), (-7, 0, 3, 0),
        ):
            with self.subTest((least, rest, width)):
                self.assertEqual(windowed(least, rest, width), number)

    def test_held_against_going_through_the_window(self):
        for width in range(5):
            for least in range(-40, 41):
                for rest in range(2 ** width):
                    self.assertEqual(windowed(least, rest, width), windowed_by_all(least, rest, width))

    def test_both_ends_of_the_window(self):
        for width in (0, 1, 7, 40, 64):
            for least in (-10 ** 29, -2 ** 64, -2 ** 40 - 3, -1, 0, 1, 2 ** 40, 10 ** 29):
                last = least + 2 ** width - 1
                self.assertEqual(windowed(least, least % 2 ** width, width), least)
                self.assertEqual(windowed(least, last % 2 ** width, width), last)


class Around(unittest.TestCase):
    def test_as_they_stand(self):
        for asked, value in (
            ((4, 9, 0, 0, 0), 9), ((4, 9, 3, 0, 0), 6), ((4, 1, 3, 0, 0), 14), ((4, 1, 3, 3, 2), 15),
            ((4, 1, 3, 2, 2), 14), ((4, 1, 3, 1, 2), 1), ((4, 15, 0, 0, 1), 0), ((4, 15, 1, 0, 1), 14),
            ((4, 15, 0, 1, 2), 1), ((4, 0, 1, 3, 2), 15), ((4, 0, 15, 4, 3), 4), ((4, 0, 15, 0, 3), 8),
            ((1, 0, 0, 1, 1), 1), ((40, 0, 1, 1, 1), 2 ** 40 - 1), ((40, 2 ** 40 - 1, 0, 0, 1), 0),
        ):
            with self.subTest(asked):
                self.assertEqual(around(*asked), value)

    def test_width_nought_tells_where_the_window_begins(self):
        for w in range(5):
            for base, below in itertools.product(range(2 ** w), repeat=2):
                self.assertEqual(around(w, base, below, 0, 0), (base - below) % 2 ** w)

    def test_width_w_tells_the_rest_itself(self):
        for w in range(4):
            for base, below, rest in itertools.product(range(2 ** w), repeat=3):
                self.assertEqual(around(w, base, below, rest, w), rest)
        for w in (40, 64):
            for rest in (0, 1, 2 ** (w - 1), 2 ** w - 1):
                self.assertEqual(around(w, 7, 2 ** w - 1, rest, w), rest)

    def test_held_against_going_through_the_window(self):
        for w in range(5):
            for base, below in itertools.product(range(2 ** w), repeat=2):
                for width in range(w + 1):
                    for rest in range(2 ** width):
                        asked = (w, base, below, rest, width)
                        self.assertEqual(around(*asked), around_by_all(*asked), asked)


class Narrowest(unittest.TestCase):
    def test_as_they_stand(self):
        for asked, width in (
            ((8, 0, (), 77), 0), ((8, 9, (), 0), 0), ((8, 0, (77,), 77), 0), ((8, 0, (77, 77, 77), 77), 0),
            ((8, 5, (82,), 77), 0), ((8, 1, (77,), 77), 1), ((8, 0, (76,), 77), 1), ((8, 0, (75,), 77), 2),
            ((8, 0, (74,), 77), 2), ((8, 0, (73,), 77), 3), ((8, 0, (78,), 77), 8), ((8, 1, (78, 77), 77), 1),
            ((8, 0, (255,), 0), 1), ((8, 1, (0,), 255), 0), ((8, 3, (250, 2), 1), 4), ((4, 3, (1, 0), 15), 2),
            ((1, 0, (1,), 0), 1), ((40, 0, (2 ** 40 - 1,), 0), 1), ((40, 0, (0,), 2 ** 40 - 1), 40),
        ):
            with self.subTest(asked):
                self.assertEqual(narrowest(*asked), width)

    def test_no_bases(self):
        for w in (0, 1, 8, 40):
            for below in (0, 2 ** w - 1):
                for value in (0, 2 ** w - 1):
                    self.assertEqual(narrowest(w, below, (), value), 0)

    def test_one_base_or_two_held_against_every_width(self):
        for w in range(4):
            values = range(2 ** w)
            for below, value, base, other in itertools.product(values, repeat=4):
                for bases in ((base,), (base, base), (base, other)):
                    self.assertEqual(narrowest(w, below, bases, value), narrowest_by_all(w, below, bases, value))

    def test_bases_about_a_power_of_two_away_and_going_round(self):
        for w in (5, 8, 33, 40, 64):
            top = 2 ** w
            for power, beside, value in itertools.product(range(w), (-1, 0, 1), (0, 1, top // 2, top - 1)):
                away = 2 ** power + beside
                for bases in (((value - away) % top,), ((value + away) % top,), (value, (value - away) % top)):
                    for below in {0, 1 % top, away % top, top - 1}:
                        told = narrowest(w, below, bases, value)
                        self.assertEqual(told, narrowest_by_all(w, below, bases, value), (w, below, bases, value))

    def test_rows_of_bases_held_against_every_width(self):
        drawn = random.Random(5)
        for _ in range(600):
            w = drawn.randint(1, 40)
            spread = 2 ** drawn.randint(0, w)
            value = drawn.randrange(2 ** w)
            bases = tuple((value + drawn.randrange(-spread, spread)) % 2 ** w for _ in range(drawn.randint(1, 40)))
            below = drawn.choice((0, spread % 2 ** w, drawn.randrange(2 ** w)))
            self.assertEqual(narrowest(w, below, bases, value), narrowest_by_all(w, below, bases, value))

    def test_the_order_of_bases_and_asking_again_are_nothing(self):
        bases = (3, 250, 17, 3)
        told = {narrowest(8, 4, row, 9) for row in itertools.permutations(bases) for _ in range(2)}
        self.assertEqual(len(told), 1)
        self.assertEqual(bases, (3, 250, 17, 3))


class Tightest(unittest.TestCase):
    def test_as_they_stand(self):
        for asked, told in (
            ((8, ()), (0, 0)), ((8, (0,)), (0, 0)), ((8, (0, 0, 0)), (0, 0)), ((8, (1,)), (1, 0)), ((8, (2,)), (2, 0)),
            ((8, (3, 0)), (2, 0)), ((8, (4,)), (3, 0)), ((8, (255,)), (1, 1)), ((8, (255, 0)), (1, 1)),
            ((8, (255, 1)), (2, 1)), ((8, (254,)), (2, 2)), ((8, (254, 255)), (2, 2)), ((8, (254, 1)), (2, 2)),
            ((8, (254, 2)), (3, 2)), ((8, (253, 1)), (3, 3)), ((8, (128,)), (8, 0)), ((8, (129,)), (7, 127)),
            ((8, (127,)), (7, 0)), ((8, (0, 64, 128, 192)), (8, 0)), ((8, (1, 255, 128)), (8, 0)), ((4, (0, 15, 1)), (2, 1)),
            ((1, (1,)), (1, 0)), ((1, (0, 1)), (1, 0)), ((40, (2 ** 40 - 1, 0)), (1, 1)), ((40, (2 ** 39,)), (40, 0)),
        ):
            with self.subTest(asked):
                self.assertEqual(tightest(*asked), told)

    def test_none_and_noughts(self):
        for w in (0, 1, 8, 40, 64):
            self.assertEqual(tightest(w, ()), (0, 0))
            self.assertEqual(tightest(w, (0,)), (0, 0))
            self.assertEqual(tightest(w, (0,) * 30), (0, 0))

    def test_every_set_of_offsets_of_small_breadths(self):
        for w in range(4):
            for many in range(2 ** w + 1):
                for offsets in itertools.combinations(range(2 ** w), many):
                    self.assertEqual(tightest(w, offsets), tightest_by_all(w, offsets), (w, offsets))
                    self.assertEqual(tightest(w, offsets[::-1] + offsets), tightest(w, offsets))

    def test_every_three_offsets_of_breadth_four(self):
        for offsets in itertools.product(range(16), repeat=3):
            self.assertEqual(tightest(4, offsets), tightest_by_all(4, offsets), offsets)

    def test_rows_of_offsets_held_against_every_width_and_below(self):
        drawn = random.Random(9)
        for _ in range(500):
            w = drawn.randint(4, 9)
            spread = 2 ** drawn.randint(0, w)
            begin = drawn.randrange(-spread, spread)
            offsets = tuple((begin + drawn.randrange(spread)) % 2 ** w for _ in range(drawn.randint(1, 12)))
            self.assertEqual(tightest(w, offsets), tightest_by_all(w, offsets), (w, offsets))

    def test_just_below_nought_going_round(self):
        for w in (8, 40, 64):
            top = 2 ** w
            for under in range(1, 20):
                self.assertEqual(tightest(w, (top - under,)), (width_for(under + 1), under))
                self.assertEqual(tightest(w, (top - under, 0)), (width_for(under + 1), under))
                self.assertEqual(tightest(w, (under, top - under)), (width_for(2 * under + 1), under))

    def test_great_breadths_the_window_holds_and_none_lesser_does(self):
        drawn = random.Random(3)
        for _ in range(200):
            w = drawn.randint(20, 64)
            spread = 2 ** drawn.randint(0, w)
            begin = drawn.randrange(-spread, spread)
            offsets = tuple((begin + drawn.randrange(spread)) % 2 ** w for _ in range(drawn.randint(1, 40)))
            width, below = tightest(w, offsets)
            self.assertTrue(0 <= width <= w and 0 <= below < 2 ** width)
            self.assertTrue(all((offset + below) % 2 ** w < 2 ** width for offset in offsets))
            # The least below of a width is 0 or brings an offset to 0: no other needs to be gone through.
            for other in {0} | {-offset % 2 ** w for offset in offsets}:
                for lesser in range(width + 1):
                    if (lesser, other) < (width, below) and other < 2 ** lesser:
                        self.assertFalse(all((offset + other) % 2 ** w < 2 ** lesser for offset in offsets))

    def test_told_is_a_tuple_of_whole_numbers(self):
        for offsets in ((), (0,), (1,), (255, 1)):
            told = tightest(8, offsets)
            self.assertIs(type(told), tuple)
            self.assertEqual([type(number) for number in told], [int, int])


if __name__ == "__main__":
    unittest.main()
