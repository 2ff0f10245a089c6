import copy
import itertools
import unittest

from shorthead.errors import NoMore
from shorthead.forms import is_form, sure
from shorthead.letters import letter_size
from shorthead.pressers import Presser
from shorthead.shapes import expected
from shorthead.tables import costs, least_table, proposed
from shorthead.windows import tightest
from tests.samples import likely_pact, likely_way, some_heads, some_shape, source

STILL = ((("a", 8, ("still",)),), 1)
KEEP = (("keep",),)
ROAD = (0, 4, 0, 0)


class Costs(unittest.TestCase):
    def test_of_no_heads(self):
        for forms in ((), ((1, 3, KEEP),)):
            self.assertEqual(costs((STILL, 4, forms, ROAD), []), ())

    def test_of_one(self):
        self.assertEqual(costs((STILL, 4, (), ROAD), [(7,)]), (12,))
        self.assertEqual(costs((STILL, 4, ((1, 3, KEEP),), ROAD), [(7,)]), (13,))
        self.assertEqual(costs(((STILL[0], 5), 4, ((1, 3, KEEP),) * 2, ROAD), [(7,)]), (17,))

    def test_of_some(self):
        # By the pact one of the last head ahead came: a form of reach 1 may go from the second on.
        pact = (STILL, 4, ((1, 3, KEEP), (2, 3, (("low", 2, 0),))), ROAD)
        heads = [(7,), (7,), (8,), (8,), (9,), (20,), (20,)]
        self.assertEqual(costs(pact, heads), (14, 5, 7, 5, 7, 14, 5))
        self.assertIs(type(costs(pact, heads)), tuple)

    def test_nothing_is_heard(self):
        pact = (STILL, 8, ((1, 9, KEEP), (2, 5, KEEP)), (1, 4, 0, 0))
        self.assertEqual(costs(pact, [(7,)] * 5), (18, 18, 7, 7, 7))
        pact = (STILL, 8, ((1, 9, KEEP),), (1, 4, 0, 0))
        self.assertEqual(costs(pact, [(7,)] * 5), (17,) * 5)

    def test_as_a_presser_tells_them(self):
        drawn = source(1)
        for _ in range(40):
            pact = likely_pact(drawn)
            heads = some_heads(drawn, pact[0], drawn.choice((1, 2, 40)))
            presser = Presser(pact)
            sizes = tuple(len(presser.press(head)) for head in heads)
            self.assertEqual(costs(pact, heads), sizes)

    def test_no_more(self):
        for wide in (1, 2, 4):
            pact = (STILL, wide, (), ROAD)
            self.assertEqual(len(costs(pact, [(7,)] * 2 ** wide)), 2 ** wide)
            for many in (2 ** wide + 1, 2 ** wide + 2, 40):
                with self.assertRaises(NoMore) as caught:
                    costs(pact, [(7,)] * many)
                self.assertIs(type(caught.exception), NoMore)

    def test_what_is_handed_in_stays(self):
        pact = (STILL, 4, ((1, 3, KEEP),), ROAD)
        heads = [(7,), (7,), (8,)]
        held = copy.deepcopy(heads)
        self.assertEqual(costs(pact, heads), costs(pact, heads))
        self.assertEqual(heads, held)


def proposed_by_words(shape, heads, reach, count):
    """The forms, straight from the document's words."""
    forms = []
    for n in range(1, len(heads)):
        ways = []
        for place, (_, breadth, _) in enumerate(shape[0]):
            offsets = []
            for more in range(1, min(reach, n) + 1):
                base = expected(shape, place, heads[n - more], heads[n][:place], more)
                offsets.append((heads[n][place] - base) % 2 ** breadth)
            width, below = tightest(breadth, tuple(offsets))
            if not any(offsets):
                ways.append(("keep",))
            else:
                ways.append(("low", width, below) if width < breadth else ("whole",))
        forms.append((reach, count, tuple(ways)))
    return tuple(sorted(form for place, form in enumerate(forms) if form not in forms[:place]))


def lesser_ways(breadth):
    """All ways of a field of this breadth, from the least bits on, of as many the least below first."""
    lows = [("low", width, below) for width in range(1, breadth) for below in range(2 ** width)]
    return [("keep",)] + lows + [("whole",)]


def least_way(shape, place, head, formers):
    """The first of all ways of a field that is sure, all other fields told whole."""
    whole = [("whole",)] * len(head)
    for way in lesser_ways(shape[0][place][1]):
        if sure(shape, (1, 1, tuple(whole[:place] + [way] + whole[place + 1:])), head, formers):
            return way
    return None


class Proposed(unittest.TestCase):
    def test_of_no_heads_and_of_one(self):
        self.assertEqual(proposed(STILL, [], 3, 4), ())
        self.assertEqual(proposed(STILL, [(7,)], 3, 4), ())

    def test_all_is_kept(self):
        self.assertEqual(proposed(STILL, [(7,), (7,)], 3, 4), ((3, 4, KEEP),))
        self.assertEqual(proposed(STILL, [(7,)] * 50, 40, 1), ((40, 1, KEEP),))
        shape = ((("a", 8, ("step", 3)), ("b", 4, ("turn", (5, 9, 2))), ("c", 6, ("with", 0, -2))), 1)
        heads = [(3 * n % 256, (5, 9, 2)[n % 3], (-6 * n) % 64) for n in range(40)]
        self.assertEqual(proposed(shape, heads, 9, 2), ((9, 2, (("keep",),) * 3),))

    def test_windows(self):
        # From 7 to 9 it is 2 above; to 6 by 9 it is 3 below, by 7 one below.
        self.assertEqual(proposed(STILL, [(7,), (9,)], 1, 4), ((1, 4, (("low", 2, 0),)),))
        self.assertEqual(proposed(STILL, [(9,), (6,)], 1, 4), ((1, 4, (("low", 2, 3),)),))
        forms = ((2, 4, (("low", 2, 0),)), (2, 4, (("low", 2, 3),)))
        self.assertEqual(proposed(STILL, [(7,), (9,), (6,)], 2, 4), forms)

    def test_windows_as_wide_as_the_field(self):
        shape = ((("a", 2, ("still",)),), 1)
        self.assertEqual(proposed(shape, [(0,), (2,)], 1, 1), ((1, 1, (("whole",),)),))
        self.assertEqual(proposed(shape, [(0,), (1,)], 1, 1), ((1, 1, (("low", 1, 0),)),))
        self.assertEqual(proposed(shape, [(0,), (3,)], 1, 1), ((1, 1, (("low", 1, 1),)),))
        shape = ((("a", 1, ("still",)),), 1)
        self.assertEqual(proposed(shape, [(0,), (1,)], 1, 1), ((1, 1, (("whole",),)),))
        shape = ((("a", 40, ("still",)),), 1)
        self.assertEqual(proposed(shape, [(0,), (2 ** 39,)], 1, 1), ((1, 1, (("whole",),)),))
        self.assertEqual(proposed(shape, [(0,), (2 ** 39 - 1,)], 1, 1), ((1, 1, (("low", 39, 0),)),))

    def test_alike_ones_are_told_once_in_rising_order(self):
        heads = [(7,), (9,), (9,), (8,), (10,), (100,), (228,), (228,), (227,)]
        ways = (("keep",), ("low", 1, 1), ("low", 2, 0), ("low", 7, 0), ("whole",))
        self.assertEqual(proposed(STILL, heads, 1, 4), tuple((1, 4, (way,)) for way in ways))

    def test_by_all_formers_of_the_reach(self):
        # 5 is 3 above 2 and 4 above 1: with a reach of 2 the window holds both.
        heads = [(1,), (2,), (5,)]
        self.assertEqual(proposed(STILL, heads, 1, 4), ((1, 4, (("low", 1, 0),)), (1, 4, (("low", 2, 0),))))
        self.assertEqual(proposed(STILL, heads, 2, 4), ((2, 4, (("low", 1, 0),)), (2, 4, (("low", 3, 0),))))
        self.assertEqual(proposed(STILL, heads, 40, 4), ((40, 4, (("low", 1, 0),)), (40, 4, (("low", 3, 0),))))

    def test_a_with_goes_by_the_heads_own_values(self):
        shape = ((("a", 8, ("drawn",)), ("b", 8, ("with", 0, 3))), 1)
        self.assertEqual(proposed(shape, [(10, 50), (8, 44)], 1, 1), ((1, 1, (("low", 2, 2), ("keep",))),))

    def test_held_against_the_documents_words(self):
        drawn = source(2)
        for _ in range(120):
            shape = some_shape(drawn, drawn.choice((2, 6, 40)))
            heads = some_heads(drawn, shape, drawn.choice((2, 3, 10)))
            reach, count = drawn.choice((1, 2, 5, 40)), drawn.randint(1, 40)
            told = proposed(shape, heads, reach, count)
            self.assertEqual(told, proposed_by_words(shape, heads, reach, count))
            self.assertTrue(all(is_form(shape, form) for form in told))

    def test_none_lesser_does(self):
        drawn = source(6)
        for _ in range(60):
            shape = some_shape(drawn, 4)
            heads = some_heads(drawn, shape, drawn.randint(2, 5))
            told = proposed(shape, heads, 3, 2)
            least = []
            for n in range(1, len(heads)):
                formers = tuple((more, heads[n - more]) for more in range(1, min(3, n) + 1))
                least.append(tuple(least_way(shape, place, heads[n], formers) for place in range(len(heads[n]))))
            self.assertEqual({form[2] for form in told}, set(least))

    def test_each_head_has_a_form_that_is_sure_of_it(self):
        drawn = source(3)
        for _ in range(60):
            shape = some_shape(drawn, 12)
            heads = some_heads(drawn, shape, 10)
            told = proposed(shape, heads, 4, 3)
            for n in range(1, 10):
                formers = tuple((more, heads[n - more]) for more in range(1, min(4, n) + 1))
                self.assertTrue(any(sure(shape, form, heads[n], formers) for form in told))

    def test_what_is_handed_in_stays(self):
        heads = [(7,), (9,), (9,)]
        held = copy.deepcopy(heads)
        self.assertEqual(proposed(STILL, heads, 2, 4), proposed(STILL, heads, 2, 4))
        self.assertEqual(heads, held)


def least_by_all(pact, heads, most):
    """The least table, by going through all rising tuples."""
    shape, wide, forms, road = pact
    tried = []
    for many in range(min(most, len(forms)) + 1):
        for places in itertools.combinations(range(len(forms)), many):
            bits = sum(costs((shape, wide, tuple(forms[at] for at in places), road), heads))
            tried.append((bits, many, places))
    bits, _, places = min(tried)
    return (places, bits)


class LeastTable(unittest.TestCase):
    def test_of_no_heads_and_of_no_forms(self):
        for most in (0, 1, 10):
            self.assertEqual(least_table((STILL, 4, ((1, 3, KEEP),) * 3, ROAD), [], most), ((), 0))
            self.assertEqual(least_table((STILL, 4, (), ROAD), [(7,)] * 5, most), ((), 60))

    def test_most_of_0(self):
        pact = (STILL, 8, ((1, 3, KEEP),) * 3, ROAD)
        self.assertEqual(least_table(pact, [(7,)] * 20, 0), ((), 320))

    def test_one_that_helps(self):
        pact = (STILL, 8, ((1, 3, (("whole",),)), (1, 3, KEEP), (1, 3, (("low", 2, 0),))), ROAD)
        # With one form the sort has one bit: a whole letter 17, and 19 kept ones 4.
        for most in (1, 2, 3, 10):
            self.assertEqual(least_table(pact, [(7,)] * 20, most), ((1,), 17 + 19 * 4))

    def test_one_that_does_not_help_enough(self):
        # The sort's bit costs each letter as much as the form spares.
        pact = (STILL, 4, ((1, 3, (("whole",),)),), ROAD)
        self.assertEqual(least_table(pact, [(7,)] * 5, 1), ((), 60))

    def test_of_costs_as_great_the_shortest_tuple(self):
        # A second form costs a bit more of each sort; here it spares just as many.
        pact = (STILL, 8, ((1, 3, KEEP), (1, 3, (("low", 4, 0),))), ROAD)
        for many in range(3, 20):
            heads = [(7,)] * many + [(8,)]
            told = least_table(pact, heads, 2)
            self.assertEqual(told, least_by_all(pact, heads, 2))
        alike = [(one, least_table(pact, [(7,)] * one + [(8,)], 2)[0]) for one in range(3, 20)]
        self.assertIn((0,), [places for _, places in alike])
        self.assertIn((0, 1), [places for _, places in alike])

    def test_of_as_short_ones_the_least(self):
        low = (1, 3, (("low", 1, 0),))
        pact = (STILL, 8, ((1, 5, KEEP), (1, 3, KEEP), (1, 3, KEEP), low, (1, 3, KEEP), low), ROAD)
        self.assertEqual(least_table(pact, [(7,)] * 9, 6), ((1,), 17 + 8 * 4))
        heads = [(7,)] * 20 + [(value,) for value in range(8, 28)] * 2
        places, bits = least_table(pact, heads, 6)
        self.assertEqual((places, bits), least_by_all(pact, heads, 6))
        self.assertTrue(set(places) <= {1, 3})

    def test_held_against_going_through_all(self):
        drawn = source(4)
        lengths = set()
        for _ in range(60):
            pact = likely_pact(drawn, anews=(0, 0, 0, 9))
            shape = pact[0]
            forms = tuple((drawn.choice((1, 2, 3)), drawn.choice((2, 3, 5)),
                           tuple(likely_way(drawn, breadth) for _, breadth, _ in shape[0]))
                          for _ in range(drawn.randint(0, 5)))
            pact = (shape, 9, forms + forms[:1], (0,) + pact[3][1:])
            heads = some_heads(drawn, shape, drawn.choice((0, 1, 5, 20)))
            for most in (0, 1, 2, len(pact[2]), 10):
                told = least_table(pact, heads, most)
                self.assertEqual(told, least_by_all(pact, heads, most))
                self.assertLessEqual(len(told[0]), most)
                lengths.add(len(told[0]))
        self.assertLessEqual({0, 1, 2}, lengths)

    def test_ten_forms_and_forty_heads(self):
        drawn = source(5)
        shape = ((("a", 8, ("step", 1)), ("b", 6, ("drawn",)), ("c", 4, ("still",))), 10)
        ways = [(("keep",), second, third) for third in (("keep",), ("low", 2, 1))
                for second in (("keep",), ("low", 2, 0), ("low", 3, 4), ("low", 5, 9), ("whole",))]
        pact = (shape, 6, tuple((1, 3, row) for row in ways), (0, 2, 1, 0))
        heads = some_heads(drawn, shape, 40)
        places, bits = least_table(pact, heads, 10)
        alone = (shape, 6, tuple(pact[2][at] for at in places), pact[3])
        self.assertEqual(sum(costs(alone, heads)), bits)
        for other in range(10):
            row = tuple(sorted(set(places) ^ {other}))
            self.assertLessEqual(bits, sum(costs(alone[:2] + (tuple(pact[2][at] for at in row),) + alone[3:], heads)))
        self.assertLess(bits, 40 * letter_size((shape, 6, (), pact[3]), None))

    def test_no_more(self):
        for wide in (1, 3, 5):
            pact = (STILL, wide, ((1, 3, KEEP),), ROAD)
            for most in (0, 1):
                self.assertEqual(len(least_table(pact, [(7,)] * 2 ** wide, most)), 2)
                with self.assertRaises(NoMore) as caught:
                    least_table(pact, [(7,)] * (2 ** wide + 1), most)
                self.assertIs(type(caught.exception), NoMore)

    def test_kinds_and_what_is_handed_in_stays(self):
        pact = (STILL, 8, ((1, 3, KEEP),), ROAD)
        heads = [(7,)] * 5
        held = copy.deepcopy(heads)
        told = least_table(pact, heads, 1)
        self.assertEqual([type(told), type(told[0]), type(told[1])], [tuple, tuple, int])
        self.assertEqual(least_table(pact, heads, 1), told)
        self.assertEqual(heads, held)


if __name__ == "__main__":
    unittest.main()
