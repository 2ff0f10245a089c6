import itertools
import unittest

from shorthead.bits import are_bits, bits_of, number_of, width_for
from tests.others import OTHERS


class AreBits(unittest.TestCase):
    def test_no_sign_at_all(self):
        self.assertIs(are_bits(""), True)

    def test_every_text_of_noughts_and_ones(self):
        for many in range(1, 9):
            for signs in itertools.product("01", repeat=many):
                self.assertIs(are_bits("".join(signs)), True)

    def test_long_texts(self):
        self.assertIs(are_bits("01" * 20000), True)
        self.assertIs(are_bits("01" * 20000 + "2"), False)

    def test_one_other_sign_at_any_place(self):
        signs = [chr(code) for code in range(32, 127) if chr(code) not in "01"] + ["\n", "\t"]
        for sign in signs + ["\0", "\u0660", "\u0661", "\u00b9", "\uff10", "\uff11"]:
            self.assertIs(are_bits(sign), False)
            for text in ("", "0", "1", "0110", "1" * 12):
                for place in range(len(text) + 1):
                    self.assertIs(are_bits(text[:place] + sign + text[place:]), False, (sign, text, place))

    def test_texts_that_other_readers_take_as_numbers(self):
        for text in (" 01", "01 ", "0b1", "0_1", "+1", "-1", "01\n"):
            self.assertIs(are_bits(text), False)

    def test_things_of_every_other_kind(self):
        for thing in OTHERS:
            with self.subTest(repr(thing)[:60]):
                self.assertIs(are_bits(thing), False)

    def test_what_is_asked_is_not_used_up(self):
        walked = iter("01")
        are_bits(walked)
        self.assertEqual(list(walked), ["0", "1"])

    def test_asked_again_the_same(self):
        for thing in ("", "0101", "012", None, ["0"]):
            self.assertIs(are_bits(thing), are_bits(thing))


class BitsOfAndNumberOf(unittest.TestCase):
    def test_as_they_stand(self):
        for number, width, bits in (
            (0, 0, ""), (0, 1, "0"), (1, 1, "1"), (0, 4, "0000"), (1, 4, "0001"), (8, 4, "1000"), (6, 4, "0110"),
            (5, 3, "101"), (5, 8, "00000101"), (200, 8, "11001000"), (2 ** 40 - 1, 40, "1" * 40),
            (2 ** 63, 64, "1" + "0" * 63), (1, 64, "0" * 63 + "1"),
        ):
            with self.subTest((number, width)):
                self.assertEqual(bits_of(number, width), bits)
                self.assertEqual(number_of(bits), number)

    def test_width_nought(self):
        self.assertEqual(bits_of(0, 0), "")
        self.assertEqual(number_of(""), 0)

    def test_noughts_ahead(self):
        for many in (1, 2, 7, 63):
            self.assertEqual(number_of("0" * many), 0)
            self.assertEqual(number_of("0" * many + "1011"), 11)
            self.assertEqual(bits_of(11, 4 + many), "0" * many + "1011")

    def test_every_number_of_small_widths(self):
        for width in range(1, 11):
            told = [bits_of(number, width) for number in range(2 ** width)]
            self.assertEqual(told, ["".join(signs) for signs in itertools.product("01", repeat=width)])
            self.assertEqual([number_of(bits) for bits in told], list(range(2 ** width)))

    def test_least_greatest_and_middle_of_each_width(self):
        for width in range(1, 65):
            top = 2 ** width
            for number in {0, 1, top // 3, top // 2 - 1, top // 2, top * 5 // 7, top - 2, top - 1}:
                if 0 <= number < top:
                    bits = bits_of(number, width)
                    self.assertEqual(bits, format(number, "b").zfill(width))
                    self.assertIs(are_bits(bits), True)
                    self.assertEqual(number_of(bits), number)
                    self.assertEqual(bits_of(number_of(bits), width), bits)

    def test_numbers_of_thirty_figures(self):
        for number in (10 ** 29, 10 ** 30 - 1, 123456789012345678901234567890):
            for width in (100, 120):
                self.assertEqual(bits_of(number, width), format(number, "b").zfill(width))
                self.assertEqual(number_of(bits_of(number, width)), number)

    def test_the_number_is_whole_and_no_truth(self):
        for bits in ("", "0", "1", "01"):
            self.assertIs(type(number_of(bits)), int)


class WidthFor(unittest.TestCase):
    def test_as_they_stand(self):
        for many, width in ((1, 0), (2, 1), (3, 2), (4, 2), (5, 3), (8, 3), (9, 4), (13, 4), (10 ** 6, 20)):
            self.assertEqual(width_for(many), width)

    def test_powers_of_two_and_the_numbers_beside_them(self):
        for power in range(2, 99):
            self.assertEqual(width_for(2 ** power - 1), power)
            self.assertEqual(width_for(2 ** power), power)
            self.assertEqual(width_for(2 ** power + 1), power + 1)

    def test_it_is_the_least_width_with_room(self):
        for many in range(1, 1100):
            width = width_for(many)
            self.assertEqual(width, min(w for w in range(12) if 2 ** w >= many))

    def test_numbers_of_thirty_figures(self):
        for many in (10 ** 29, 10 ** 30 - 1, 2 ** 99, 2 ** 99 + 1, 123456789012345678901234567890):
            width = width_for(many)
            self.assertGreaterEqual(2 ** width, many)
            self.assertLess(2 ** (width - 1), many)

    def test_the_width_is_whole_and_no_truth(self):
        for many in (1, 2, 3):
            self.assertIs(type(width_for(many)), int)


if __name__ == "__main__":
    unittest.main()
