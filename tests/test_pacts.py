import copy
import unittest

from shorthead.pacts import is_pact
from tests.others import OTHERS, nested, parts_otherwise, tuples_otherwise
from tests.samples import FORM, KINDS, PACT, SHAPE, some_pact, source

ROAD = PACT[3]


class Pacts(unittest.TestCase):
    def holds(self, thing):
        self.assertIs(is_pact(thing), True, repr(thing)[:200])

    def fails(self, thing):
        self.assertIs(is_pact(thing), False, repr(thing)[:200])

    def test_pacts_as_they_stand(self):
        self.holds(PACT)
        self.holds(((((("a", 1, ("still",)),), 1)), 1, (), (0, 0, 0, 0)))

    def test_drawn_pacts(self):
        drawn = source(1)
        for _ in range(200):
            self.holds(some_pact(drawn))

    def test_bounds_of_wide(self):
        for wide in (1, 2, 39, 40):
            self.holds((SHAPE, wide, (FORM,), ROAD))
        for wide in (-10 ** 29, -1, 0, 41, 10 ** 29):
            self.fails((SHAPE, wide, (FORM,), ROAD))

    def test_how_many_forms(self):
        other = (1, 1, (("keep",),) * 5)
        for many in range(13):
            self.holds((SHAPE, 16, (FORM,) * many, ROAD))
            self.holds((SHAPE, 16, (FORM, other) * (many // 2), ROAD))
        for many in (13, 14, 40):
            self.fails((SHAPE, 16, (FORM,) * many, ROAD))

    def test_every_form_is_one_of_the_shape(self):
        for wrong in ((0, 3, FORM[2]), (4, 41, FORM[2]), (4, 3, FORM[2][1:]), list(FORM), None):
            for place in range(4):
                self.fails((SHAPE, 16, (FORM,) * place + (wrong,) + (FORM,) * (3 - place), ROAD))
        narrow = (tuple((name, 1, ("still",)) for name in "abcde"), 1)
        self.fails((narrow, 16, (FORM,), ROAD))

    def test_the_shape_is_one(self):
        for wrong in ((KINDS, 0), ((), 1), (KINDS + KINDS, 17), list(SHAPE), KINDS, None):
            self.fails((wrong, 16, (), ROAD))
            self.fails((wrong, 16, (FORM,), ROAD))

    def test_bounds_of_skips_and_gap(self):
        for skips in (0, 1, 2, 38, 39):
            for gap in range(-2, 405):
                self.assertIs(is_pact((SHAPE, 16, (), (skips, gap, 0, 0))), skips <= gap <= 400, (skips, gap))
            self.fails((SHAPE, 16, (), (skips, 10 ** 29, 0, 0)))
        for skips in (-10 ** 29, -1, 40, 41, 400, 10 ** 29):
            for gap in (skips, skips + 1, 0, 40, 41, 400):
                self.fails((SHAPE, 16, (), (skips, gap, 0, 0)))

    def test_bounds_of_late(self):
        for late in (0, 1, 19, 20):
            self.holds((SHAPE, 16, (), (2, 6, late, 50)))
        for late in (-10 ** 29, -1, 21, 22, 10 ** 29):
            self.fails((SHAPE, 16, (), (2, 6, late, 50)))

    def test_bounds_of_anew(self):
        for anew in (0, 1, 399, 400):
            self.holds((SHAPE, 16, (), (2, 6, 3, anew)))
        for anew in (-10 ** 29, -1, 401, 402, 10 ** 29):
            self.fails((SHAPE, 16, (), (2, 6, 3, anew)))

    def test_no_number_in_a_numbers_place(self):
        for thing in parts_otherwise(PACT, 1):
            self.fails(thing)
        for road in (ROAD, (0, 0, 0, 0), (1, 1, 1, 1)):
            for other in parts_otherwise(road, 0, 1, 2, 3):
                self.fails((SHAPE, 16, (FORM,), other))

    def test_a_part_more_or_fewer_or_another_kind(self):
        for thing in tuples_otherwise(PACT):
            self.fails(thing)
        for shape in tuples_otherwise(SHAPE):
            self.fails((shape, 16, (), ROAD))
        for road in tuples_otherwise(ROAD):
            self.fails((SHAPE, 16, (FORM,), road))
        for forms in ([], [FORM], {}, {0: FORM}, None, FORM, "", b"", 0, False):
            self.fails((SHAPE, 16, forms, ROAD))

    def test_things_of_other_kinds(self):
        for thing in OTHERS:
            self.fails(thing)
            self.fails((thing, 16, (), ROAD))
            self.fails((SHAPE, 16, (thing,), ROAD))
            self.fails((SHAPE, 16, (FORM,), thing))
            self.fails((thing,) * 4)
        self.fails(nested(tuple, PACT, 57))
        self.fails(nested(list, PACT, 1))

    def test_what_is_asked_stays_and_is_told_the_same_again(self):
        for thing in (PACT, list(PACT), {"a": [PACT]}):
            held = copy.deepcopy(thing)
            self.assertIs(is_pact(thing), is_pact(thing))
            self.assertEqual(thing, held)


if __name__ == "__main__":
    unittest.main()
