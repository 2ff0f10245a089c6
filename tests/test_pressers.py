import unittest

from shorthead.doubts import doubt, shows_doubt
from shorthead.errors import NoHead, NoMore, NoWord
from shorthead.letters import letter_size, parted, pressed_letter, whole_letter
from shorthead.pressers import Presser
from tests.models import PlainPresser
from tests.others import NO_NUMBERS, OTHERS, nested, parts_otherwise, tuples_otherwise
from tests.samples import likely_pact, some_head, next_head, source

STILL = ((("a", 8, ("still",)),), 1)
KEEP = (("keep",),)


def pact_with(*forms, skips=0, gap=None, late=0, anew=0, wide=16, shape=STILL):
    return (shape, wide, forms, (skips, skips if gap is None else gap, late, anew))


def pressed(pact, many, head=(7,)):
    """A presser behind so many heads, all alike."""
    presser = Presser(pact)
    for _ in range(many):
        presser.press(head)
    return presser


def sort_of(pact, letter):
    return parted(pact, letter)[0]


class FirstLetters(unittest.TestCase):
    def test_the_first_letter_is_whole(self):
        for pact in (pact_with(), pact_with((40, 40, KEEP)), pact_with((1, 1, KEEP), skips=3, anew=2)):
            presser = Presser(pact)
            self.assertEqual(presser.press((200,)), whole_letter(pact, 0, (200,)))
            self.assertEqual(presser.sent(), 1)

    def test_whole_until_one_is_shared(self):
        for skips in (0, 1, 4):
            pact = pact_with((40, 40, KEEP), skips=skips, wide=40)
            presser = Presser(pact)
            for number in range(10):
                letter = presser.press((7,))
                if number <= skips:
                    self.assertEqual(letter, whole_letter(pact, number, (7,)))
                else:
                    self.assertEqual(letter, pressed_letter(pact, 0, number, (7,)))

    def test_without_forms_all_are_whole(self):
        pact = pact_with()
        presser = Presser(pact)
        for number in range(50):
            self.assertEqual(presser.press((number,)), whole_letter(pact, number, (number,)))
            presser.heard(("have", number))

    def test_two_pressers_are_each_by_itself(self):
        pact = pact_with((3, 9, KEEP))
        first, second = Presser(pact), Presser(pact)
        first.press((1,))
        first.heard(("have", 0))
        self.assertEqual((second.sent(), second.known(), second.formers(5)), (0, (None, None, 0), ()))
        self.assertEqual(second.press((1,)), whole_letter(pact, 0, (1,)))


class Anew(unittest.TestCase):
    def test_each_that_is_a_whole_number_of_times_anew(self):
        for anew in (0, 1, 2, 3, 7):
            pact = pact_with((3, 9, KEEP), anew=anew)
            presser = Presser(pact)
            for number in range(22):
                told = anew > 0 and number % anew == 0
                self.assertEqual(presser.why_not((7,), 0), "anew" if told else "shared" if number == 0 else None)
                letter = presser.press((7,))
                self.assertEqual(sort_of(pact, letter), None if told or number == 0 else 0)

    def test_ahead_of_all_else(self):
        # At 6 nothing would do: none is shared, the count is too small, and the head is another one.
        pact = pact_with((1, 1, KEEP), skips=5, gap=9, late=9, anew=3)
        presser = pressed(pact, 6)
        self.assertEqual(presser.why_not((8,), 0), "anew")
        presser.press((7,))
        self.assertEqual(presser.why_not((8,), 0), "shared")


class Shared(unittest.TestCase):
    def test_by_skips_at_its_bound_and_one_beyond(self):
        for skips in (0, 1, 2, 6, 39):
            for reach in {1, skips, skips + 1, skips + 2} & set(range(1, 41)):
                pact = pact_with((reach, 40, KEEP), skips=skips)
                for many in (0, 1, skips, skips + 1, skips + 2, 50):
                    may = many >= skips + 1 and reach >= skips + 1
                    self.assertEqual(pressed(pact, many).why_not((7,), 0), None if may else "shared")

    def test_by_base_at_its_bound_and_one_beyond(self):
        for reach in (1, 2, 5, 40):
            pact = pact_with((reach, 40, KEEP), skips=39)
            for base in (0, 1, 7):
                presser = pressed(pact, base + 1)
                presser.heard(("have", base))
                for number in range(base + 1, base + reach + 3):
                    if number > 39 and reach == 40:
                        break
                    self.assertEqual(presser.sent(), number)
                    self.assertEqual(presser.why_not((7,), 0), None if base >= number - reach else "shared")
                    presser.press((7,))

    def test_the_greatest_of_both(self):
        # At 10 skips tell 6, which is beyond a reach of 3; the bases from 7 on are within it.
        for base in range(10):
            presser = pressed(pact_with((3, 40, KEEP), (4, 40, KEEP), skips=3), 10)
            presser.heard(("have", base))
            self.assertEqual(presser.why_not((7,), 0), None if base >= 7 else "shared")
            self.assertEqual(presser.why_not((7,), 1), None)

    def test_fresh_behind_an_anew(self):
        pact = pact_with((3, 9, KEEP), skips=2)
        presser = pressed(pact, 5)
        presser.heard(("have", 4))
        self.assertEqual(presser.why_not((7,), 0), None)
        presser.heard(("anew",))
        self.assertEqual(presser.known(), (4, None, 5))
        for number in range(5, 12):
            self.assertEqual(presser.why_not((7,), 0), None if number >= 8 else "shared")
            self.assertEqual(sort_of(pact, presser.press((7,))), 0 if number >= 8 else None)

    def test_what_is_heard_behind_an_anew(self):
        presser = pressed(pact_with((9, 40, KEEP), skips=39), 5)
        presser.heard(("anew",))
        presser.heard(("have", 4))
        self.assertEqual((presser.known(), presser.why_not((7,), 0)), ((4, None, 5), "shared"))
        presser.press((7,))
        presser.press((7,))
        presser.heard(("have", 3))
        self.assertEqual((presser.known(), presser.why_not((7,), 0)), ((4, None, 5), "shared"))
        presser.heard(("have", 5))
        self.assertEqual((presser.known(), presser.why_not((7,), 0)), ((5, 5, 5), None))
        presser.heard(("have", 6))
        self.assertEqual(presser.known(), (6, 6, 5))
        presser.heard(("have", 5))
        self.assertEqual(presser.known(), (6, 6, 5))
        presser.heard(("anew",))
        self.assertEqual((presser.known(), presser.why_not((7,), 0)), ((6, None, 7), "shared"))
        presser.heard(("anew",))
        self.assertEqual(presser.known(), (6, None, 7))

    def test_an_anew_ahead_of_all(self):
        presser = Presser(pact_with((9, 40, KEEP)))
        presser.heard(("anew",))
        self.assertEqual(presser.known(), (None, None, 0))
        presser.press((7,))
        self.assertEqual(presser.why_not((7,), 0), None)

    def test_ahead_of_count_and_doubt(self):
        presser = pressed(pact_with((1, 1, KEEP), skips=1, gap=400, late=20), 9)
        self.assertEqual(presser.why_not((8,), 0), "shared")


class Count(unittest.TestCase):
    def held_at(self, least, pact, presser):
        """The counts from the least one on do, those below don't."""
        told = [presser.why_not((7,), at) for at in range(len(pact[2]))]
        self.assertEqual(told, ["count"] * (least - 1) + [None] * (len(told) - least + 1))

    def counts(self, **road):
        return pact_with(*[(40, count, KEEP) for count in range(1, 11)], **road)

    def test_from_0_on(self):
        # Neither gap nor a word tells more than that the top is 0 at least: n + late is below 2 ** count.
        for late in (0, 1, 2, 5):
            pact = self.counts(gap=400, late=late)
            for number in range(1, 40):
                self.held_at((number + late).bit_length(), pact, pressed(pact, number))

    def test_by_gap(self):
        for gap, late in ((0, 0), (1, 0), (2, 0), (3, 0), (0, 2), (1, 2), (2, 1), (3, 2), (7, 8), (30, 1), (30, 0)):
            pact = self.counts(gap=gap, late=late)
            presser = pressed(pact, 60)
            self.held_at((1 + gap + late).bit_length(), pact, presser)

    def test_by_had(self):
        for late in (0, 1, 4):
            pact = self.counts(gap=400, late=late)
            for had in (0, 1, 2, 3, 4, 5, 40, 57, 58, 59):
                presser = pressed(pact, 60)
                presser.heard(("have", had))
                self.held_at((60 + late - max(0, had - late)).bit_length(), pact, presser)

    def test_the_greatest_of_gap_and_had(self):
        pact = self.counts(gap=10, late=3)
        for had in range(60):
            presser = pressed(pact, 60)
            presser.heard(("have", had))
            self.held_at((63 - max(49, had - 3)).bit_length(), pact, presser)

    def test_had_stays_behind_an_anew(self):
        pact = self.counts(gap=400)
        presser = pressed(pact, 60)
        presser.heard(("have", 59))
        presser.heard(("anew",))
        presser.press((7,))
        self.held_at(2, pact, presser)

    def test_ahead_of_doubt(self):
        presser = pressed(pact_with((1, 1, KEEP), (1, 5, KEEP), gap=9, late=9), 9)
        self.assertEqual(presser.why_not((8,), 0), "count")
        self.assertEqual(presser.why_not((8,), 1), (0, 0, 7))


class Sure(unittest.TestCase):
    def test_by_all_formers_of_the_reach(self):
        heads = [(1,), (2,), (2,), (2,)]
        for reach in (1, 2, 3, 4, 40):
            pact = pact_with((reach, 40, KEEP))
            presser = Presser(pact)
            for head in heads:
                presser.press(head)
            self.assertEqual(presser.why_not((2,), 0), None if reach <= 3 else (3, 0, 1))
            self.assertEqual(presser.why_not((1,), 0), (0, 0, 2))
            self.assertEqual(presser.usable((2,)), (0,) if reach <= 3 else ())

    def test_a_step_is_looked_for_by_how_many_letters_it_is(self):
        shape = ((("a", 8, ("step", 3)),), 1)
        pact = pact_with((5, 9, KEEP), shape=shape)
        presser = Presser(pact)
        for number in range(100):
            head = (3 * number % 256,)
            self.assertEqual(presser.why_not(head, 0), None if number else "shared")
            self.assertEqual(sort_of(pact, presser.press(head)), 0 if number else None)
        self.assertEqual(presser.why_not((45,), 0), (0, 0, 44))

    def test_the_windows_bounds(self):
        pact = pact_with((1, 40, (("low", 3, 2),)))
        presser = pressed(pact, 1, (100,))
        for value in range(256):
            told = presser.why_not((value,), 0)
            if 98 <= value <= 105:
                self.assertIs(told, None)
            else:
                self.assertEqual((told[:2], told[2] % 8), ((0, 0), value % 8))

    def test_a_doubt_is_as_doubt_tells_it(self):
        pact = pact_with((4, 40, KEEP))
        presser = Presser(pact)
        for head in ((5,), (4,), (3,), (3,)):
            presser.press(head)
        told = presser.why_not((3,), 0)
        self.assertEqual(told, (2, 0, 4))
        self.assertEqual(told, doubt(STILL, pact[2][0], (3,), presser.formers(4)))
        self.assertTrue(shows_doubt(STILL, pact[2][0], (3,), presser.formers(4), told))


class Least(unittest.TestCase):
    def test_the_shortest_of_those_that_may_go(self):
        forms = ((1, 40, (("low", 4, 0),)), (1, 3, (("low", 4, 0),)), (1, 3, (("low", 2, 0),)), (1, 3, (("whole",),)))
        pact = pact_with(*forms)
        for value, at in ((100, 2), (103, 2), (104, 1), (115, 1), (116, 3), (99, 3)):
            presser = pressed(pact, 1, (100,))
            letter = presser.press((value,))
            self.assertEqual(sort_of(pact, letter), at)
            self.assertEqual(letter, pressed_letter(pact, at, 1, (value,)))

    def test_of_as_great_ones_the_whole_one(self):
        for count, at in ((4, 0), (5, None), (6, None)):
            pact = pact_with((1, count, (("whole",),)), wide=5)
            presser = pressed(pact, 1)
            self.assertEqual(presser.usable((7,)), (0,))
            self.assertEqual(sort_of(pact, presser.press((7,))), at)

    def test_of_as_great_ones_the_first_form(self):
        low, other, long = (1, 3, (("low", 2, 0),)), (1, 4, (("low", 1, 0),)), (1, 9, (("low", 2, 0),))
        for forms, at in (((low, low), 0), ((other, low), 0), ((low, other), 0), ((long, low, other), 1),
                          ((long, other, low), 1), ((low,) * 12, 0)):
            pact = pact_with(*forms)
            presser = pressed(pact, 1, (100,))
            self.assertEqual(presser.usable((101,)), tuple(range(len(forms))))
            self.assertEqual(sort_of(pact, presser.press((101,))), at)

    def test_a_shorter_one_that_may_not_go_is_passed_over(self):
        low, other = (1, 3, (("low", 1, 0),)), (1, 3, (("low", 2, 0),))
        for forms, at in (((low, other, other), 1), ((other, low, other), 0)):
            pact = pact_with(*forms)
            presser = pressed(pact, 1, (100,))
            self.assertEqual(sort_of(pact, presser.press((102,))), at)


class AsksNothingMore(unittest.TestCase):
    def test_why_not_and_usable_change_nothing(self):
        pact = pact_with((2, 9, KEEP), (1, 9, (("low", 3, 0),)))
        presser, other = pressed(pact, 5), pressed(pact, 5)
        for head in ((7,), (8,), (100,), (7,)):
            for _ in range(2):
                presser.usable(head)
                presser.why_not(head, 0)
                presser.why_not(head, 1)
            self.assertEqual(presser.known(), other.known())
            self.assertEqual(presser.sent(), other.sent())
            self.assertEqual(presser.formers(40), other.formers(40))
            self.assertEqual(presser.press(head), other.press(head))

    def test_nothing_is_asked_of_how_many_numbers_there_are(self):
        for wide in (1, 2, 3):
            pact = pact_with((2, 9, KEEP), wide=wide)
            presser = pressed(pact, 2 ** wide)
            for _ in range(2):
                self.assertEqual(presser.why_not((7,), 0), None)
                self.assertEqual(presser.why_not((8,), 0), (0, 0, 7))
                self.assertEqual(presser.usable((7,)), (0,))
                self.assertEqual(presser.sent(), 2 ** wide)
                self.assertEqual(presser.formers(2), ((1, (7,)), (2, (7,))))
                presser.heard(("have", 2 ** wide - 1))
                with self.assertRaises(NoMore):
                    presser.press((7,))


class Refusals(unittest.TestCase):
    def refused(self, error, presser, ask):
        before = (presser.sent(), presser.known(), presser.formers(40))
        with self.assertRaises(error) as caught:
            ask()
        self.assertIs(type(caught.exception), error)
        self.assertEqual((presser.sent(), presser.known(), presser.formers(40)), before)

    def no_heads(self, presser, things):
        for thing in things:
            self.refused(NoHead, presser, lambda: presser.press(thing))
            self.refused(NoHead, presser, lambda: presser.why_not(thing, 0))
            self.refused(NoHead, presser, lambda: presser.usable(thing))

    def test_no_head(self):
        presser = pressed(pact_with((2, 9, KEEP)), 3)
        self.no_heads(presser, OTHERS)
        self.no_heads(presser, [(-1,), (256,), (10 ** 29,), (7, 7), [7], ((7,),), 7, "7", nested(tuple, (7,), 58)])
        self.no_heads(presser, [(thing,) for thing in NO_NUMBERS])
        self.no_heads(Presser(pact_with((2, 9, KEEP), anew=1)), [(256,), None])

    def test_no_head_where_no_form_is(self):
        presser = Presser(pact_with())
        self.refused(NoHead, presser, lambda: presser.usable((256,)))
        self.refused(NoHead, presser, lambda: presser.press([7]))

    def test_no_more(self):
        for wide in (1, 2, 5):
            presser = pressed(pact_with((2, 9, KEEP), wide=wide), 2 ** wide)
            for _ in range(2):
                self.refused(NoMore, presser, lambda: presser.press((7,)))

    def test_the_first_named_where_both_are_due(self):
        presser = pressed(pact_with((2, 9, KEEP), wide=1), 2)
        for thing in (None, (256,), [7], (True,)):
            self.refused(NoHead, presser, lambda: presser.press(thing))

    def test_no_word(self):
        presser = pressed(pact_with((2, 9, KEEP)), 3)
        presser.heard(("have", 1))
        for thing in OTHERS:
            self.refused(NoWord, presser, lambda: presser.heard(thing))
        for word in (("have", 1), ("have", 0), ("anew",)):
            for thing in tuples_otherwise(word):
                self.refused(NoWord, presser, lambda: presser.heard(thing))
        for thing in parts_otherwise(("have", 1), 1):
            self.refused(NoWord, presser, lambda: presser.heard(thing))
        for thing in (("have",), ("anew", 1), ("anew", None), ("Have", 1), ("have ", 1), ("ANEW",), ("new",), "anew",
                      "have", ("have", "1"), (b"have", 1), ("have", 1, 1), (1, "have"), ("read", 1), ("anew", "anew")):
            self.refused(NoWord, presser, lambda: presser.heard(thing))

    def test_no_word_of_a_number_that_was_not_pressed(self):
        for many in (0, 1, 3):
            presser = pressed(pact_with((2, 9, KEEP)), many)
            for number in (-10 ** 29, -1, many, many + 1, 10 ** 29):
                self.refused(NoWord, presser, lambda: presser.heard(("have", number)))
            for number in range(many):
                self.assertIs(presser.heard(("have", number)), None)
        self.assertIs(presser.heard(("anew",)), None)


class Told(unittest.TestCase):
    def test_known(self):
        presser = Presser(pact_with())
        self.assertEqual(presser.known(), (None, None, 0))
        for number in range(6):
            presser.press((number,))
            self.assertEqual(presser.known(), (None, None, 0))
        for number, had in ((2, 2), (0, 2), (1, 2), (5, 5), (4, 5), (5, 5)):
            presser.heard(("have", number))
            self.assertEqual(presser.known(), (had, had, 0))

    def test_sent_and_formers(self):
        presser = Presser(pact_with(wide=10))
        self.assertEqual([presser.formers(reach) for reach in (1, 2, 40)], [(), (), ()])
        for number in range(300):
            self.assertEqual(presser.sent(), number)
            for reach in (1, 2, 3, 39, 40):
                mores = range(1, min(reach, number) + 1)
                self.assertEqual(presser.formers(reach), tuple((more, ((number - more) % 256,)) for more in mores))
            presser.press((number % 256,))

    def test_many_are_pressed(self):
        presser = Presser(pact_with((40, 3, KEEP)))
        for number in range(400):
            presser.press((7,))
        self.assertEqual(presser.sent(), 400)
        self.assertEqual(presser.formers(40), tuple((more, (7,)) for more in range(1, 41)))

    def test_kinds(self):
        presser = pressed(pact_with((2, 9, KEEP)), 2)
        self.assertIs(type(presser.press((7,))), str)
        self.assertIs(type(presser.sent()), int)
        self.assertIs(type(presser.known()), tuple)
        self.assertIs(type(presser.formers(2)), tuple)
        self.assertIs(type(presser.usable((7,))), tuple)


class Drawn(unittest.TestCase):
    def test_held_against_the_documents_words(self):
        drawn = source(5)
        seen = {}
        for _ in range(120):
            pact = likely_pact(drawn)
            presser, plain = Presser(pact), PlainPresser(pact)
            head = some_head(drawn, pact[0])
            for number in range(drawn.choice((10, 40))):
                self.assertEqual(presser.known(), plain.known())
                self.assertEqual(presser.usable(head), plain.usable(head))
                for at in range(len(pact[2])):
                    told = presser.why_not(head, at)
                    self.assertEqual(told, plain.why_not(head, at))
                    seen[told if told is None or isinstance(told, str) else "doubt"] = True
                letter = presser.press(head)
                self.assertEqual(letter, plain.press(head))
                self.assertLessEqual(len(letter), letter_size(pact, None))
                while drawn.randrange(3) == 0:
                    word = ("have", drawn.randint(0, number)) if drawn.randrange(8) else ("anew",)
                    presser.heard(word)
                    plain.heard(word)
                head = next_head(drawn, pact[0], head)
        self.assertEqual(set(seen), {None, "anew", "shared", "count", "doubt"})


if __name__ == "__main__":
    unittest.main()
