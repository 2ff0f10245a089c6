import itertools
import unittest

from shorthead.bits import width_for
from shorthead.errors import HeadError, NoLetter
from shorthead.forms import pieces
from shorthead.letters import letter_size, parted, pressed_letter, whole_letter
from shorthead.shapes import check_of
from tests.others import OTHERS
from tests.samples import some_head, some_pact, source

FIELDS = (("a", 3, ("still",)), ("b", 4, ("step", 1)))
KEEP = (2, 2, (("keep",), ("keep",)))
LOW = (3, 3, (("low", 2, 1), ("whole",)))
ROAD = (0, 0, 0, 0)


def pact_of(forms, m, wide=5):
    return ((FIELDS, m), wide, forms, ROAD)


def texts(most):
    """All bits of at most so many signs."""
    for many in range(most + 1):
        for signs in itertools.product("01", repeat=many):
            yield "".join(signs)


class Written(unittest.TestCase):
    def test_whole_ones(self):
        # The check is the rest of 19 + 2 * 5 + 3 * 9 = 56.
        for forms, sort in (((), ""), ((KEEP,), "0"), ((KEEP, LOW), "00"), ((KEEP,) * 3, "00"), ((LOW,) * 12, "0000")):
            for m, check in ((1, ""), (2, "0"), (3, "10"), (10, "0110"), (16, "1000"), (17, "00101"), (57, "111000")):
                pact = pact_of(forms, m)
                letter = sort + "10011" + "101" + "1001" + check
                self.assertEqual(whole_letter(pact, 19, (5, 9)), letter)
                self.assertEqual(letter_size(pact, None), len(letter))
                self.assertEqual(parted(pact, letter), (None, 19, "1011001", 56 % m))

    def test_pressed_ones(self):
        for m, check in ((1, ""), (2, "0"), (3, "10"), (10, "0110"), (64, "111000")):
            pact = pact_of((KEEP, LOW, LOW), m)
            for at, sort, rest, told in ((0, "01", "11", ""), (1, "10", "011", "011001"), (2, "11", "011", "011001")):
                letter = sort + rest + told + check
                self.assertEqual(pressed_letter(pact, at, 19, (5, 9)), letter)
                self.assertEqual(letter_size(pact, at), len(letter))
                self.assertEqual(parted(pact, letter), (at, int(rest, 2), told, 56 % m))

    def test_the_width_of_the_sort(self):
        for many, width in ((0, 0), (1, 1), (2, 2), (3, 2), (4, 3), (7, 3), (8, 4), (12, 4)):
            pact = pact_of((KEEP,) * many, 1)
            self.assertEqual(whole_letter(pact, 0, (0, 0)), "0" * (width + 5 + 7))
            for at in range(many):
                self.assertEqual(pressed_letter(pact, at, 3, (0, 0)), bin(1 + at)[2:].zfill(width) + "11")

    def test_least_and_greatest_numbers(self):
        for wide in (1, 2, 8, 40):
            pact = pact_of((KEEP,), 7, wide)
            for number in {0, 1, 2 ** wide - 1}:
                letter = whole_letter(pact, number, (7, 15))
                self.assertEqual(letter[1:1 + wide], bin(number)[2:].zfill(wide))
                self.assertEqual(parted(pact, letter), (None, number, "1111111", (number + 14 + 45) % 7))
                letter = pressed_letter(pact, 0, number, (7, 15))
                self.assertEqual(parted(pact, letter), (0, number % 4, "", (number + 14 + 45) % 7))

    def test_the_check_is_of_the_number_and_not_of_its_rest(self):
        pact = pact_of((KEEP,), 1000, 40)
        self.assertEqual(parted(pact, pressed_letter(pact, 0, 10 ** 12 + 999, (0, 0)))[3], 999)
        self.assertEqual(parted(pact, whole_letter(pact, 10 ** 12 + 999, (0, 0)))[3], 999)

    def test_kinds_of_what_is_told(self):
        pact = pact_of((KEEP, LOW), 10)
        for letter in (whole_letter(pact, 1, (1, 1)), pressed_letter(pact, 1, 1, (1, 1))):
            self.assertIs(type(letter), str)
            told = parted(pact, letter)
            self.assertIs(type(told), tuple)
            self.assertEqual([type(part) for part in told[1:]], [int, str, int])
        self.assertIs(type(letter_size(pact, None)), int)
        self.assertIs(type(letter_size(pact, 0)), int)


class Drawn(unittest.TestCase):
    def test_what_is_made_is_parted(self):
        drawn = source(1)
        for _ in range(150):
            pact = some_pact(drawn)
            shape, wide, forms, _ = pact
            head = some_head(drawn, shape)
            number = drawn.choice((0, 1, 2 ** wide - 1, drawn.randrange(2 ** wide)))
            check = check_of(shape, number, head)
            letter = whole_letter(pact, number, head)
            values = "".join(bin(value)[2:].zfill(breadth) for value, (_, breadth, _) in zip(head, shape[0]))
            self.assertEqual(len(letter), letter_size(pact, None))
            self.assertEqual(parted(pact, letter), (None, number, values, check))
            for at, form in enumerate(forms):
                letter = pressed_letter(pact, at, number, head)
                self.assertEqual(len(letter), letter_size(pact, at))
                told = pieces(shape, form, head)
                self.assertEqual(parted(pact, letter), (at, number % 2 ** form[1], told, check))


class NoLetters(unittest.TestCase):
    def fails(self, pact, thing):
        with self.assertRaises(NoLetter, msg=repr(thing)[:200]) as caught:
            parted(pact, thing)
        self.assertIs(type(caught.exception), NoLetter)
        self.assertIsInstance(caught.exception, HeadError)

    def test_things_of_other_kinds(self):
        for pact in (pact_of((), 1), pact_of((KEEP, LOW), 10)):
            letter = whole_letter(pact, 0, (0, 0))
            for thing in OTHERS + (letter.encode(), list(letter), tuple(letter), (letter,), int(letter), {letter: 0}):
                self.fails(pact, thing)

    def test_another_sign(self):
        pact = pact_of((KEEP, LOW), 10)
        for letter in (whole_letter(pact, 19, (5, 9)), pressed_letter(pact, 0, 19, (5, 9))):
            self.assertEqual(len(parted(pact, letter)), 4)
            for place in range(len(letter)):
                for sign in ("2", " ", "\n", "o", "-", "\t", "\u0661"):
                    self.fails(pact, letter[:place] + sign + letter[place + 1:])

    def test_nothing_one_more_and_one_fewer(self):
        for forms in ((), (KEEP,), (KEEP, LOW, KEEP), (LOW,) * 12):
            for m in (1, 2, 10):
                pact = pact_of(forms, m)
                self.fails(pact, "")
                letters = [whole_letter(pact, 19, (5, 9))]
                letters += [pressed_letter(pact, at, 19, (5, 9)) for at in range(len(forms))]
                for letter in letters:
                    for other in (letter + "0", letter + "1", letter[:-1], "0" + letter, "1" + letter, letter * 2):
                        if len(other) != letter_size(pact, self.at_of(pact, other)):
                            self.fails(pact, other)

    def at_of(self, pact, letter):
        sort = int("0" + letter[:width_for(1 + len(pact[2]))], 2)
        return None if sort == 0 else min(sort - 1, len(pact[2]) - 1)

    def test_one_more_and_one_fewer_of_each_sort(self):
        pact = pact_of((KEEP, LOW), 1)
        for sort, size in (("00", 14), ("01", 4), ("10", 11)):
            for many in range(20):
                letter = sort + "0" * (many - 2) if many > 1 else sort[:many]
                if many == size:
                    self.assertEqual(len(parted(pact, letter)), 4)
                else:
                    self.fails(pact, letter)

    def test_a_sort_of_none(self):
        for many in (2, 4, 5, 6, 8, 12):
            pact = pact_of((KEEP,) * many, 1)
            width = width_for(1 + many)
            for sort in range(1 + many, 2 ** width):
                for size in range(16):
                    self.fails(pact, bin(sort)[2:].zfill(width) + "0" * size)

    def test_a_check_not_below_m(self):
        for m in (1, 2, 3, 5, 8, 10, 15, 16):
            pact = pact_of((KEEP,), m)
            width = width_for(m)
            for check in range(2 ** width):
                last = bin(check)[2:].zfill(width) if width else ""
                whole, pressed = "0" + "0" * 12 + last, "1" + "00" + last
                if check < m:
                    # Whether the check is that of these values is not asked.
                    self.assertEqual(parted(pact, whole), (None, 0, "0000000", check))
                    self.assertEqual(parted(pact, pressed), (0, 0, "", check))
                else:
                    self.fails(pact, whole)
                    self.fails(pact, pressed)

    def test_all_short_texts(self):
        shape = ((("a", 1, ("still",)), ("b", 2, ("drawn",))), 3)
        forms = ((1, 1, (("keep",), ("keep",))), (1, 2, (("whole",), ("low", 1, 0))))
        pact = (shape, 2, forms, ROAD)
        taken = {None: 0, 0: 0, 1: 0}
        for text in texts(11):
            width = {"00": 5, "01": 1, "10": 4}.get(text[:2])
            if width is None or len(text) != 2 + width + 2 or text[-2:] == "11":
                self.fails(pact, text)
                continue
            at, number, told, check = parted(pact, text)
            counted = 1 if at == 0 else 2
            again = ("00" if at is None else bin(1 + at)[2:].zfill(2)) + bin(number)[2:].zfill(counted) + told
            self.assertEqual(again + bin(check)[2:].zfill(2), text)
            taken[at] += 1
        self.assertEqual(taken, {None: 32 * 3, 0: 2 * 3, 1: 16 * 3})

    def test_the_same_again(self):
        pact = pact_of((KEEP, LOW), 10)
        letter = whole_letter(pact, 19, (5, 9))
        self.assertEqual(parted(pact, letter), parted(pact, letter))
        self.assertEqual(whole_letter(pact, 19, (5, 9)), letter)


if __name__ == "__main__":
    unittest.main()
