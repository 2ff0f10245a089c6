import copy
import itertools
import unittest

from shorthead.doubts import doubt, shows_doubt
from shorthead.forms import opened, pieces, sure
from tests.others import OTHERS, nested, parts_otherwise, tuples_otherwise
from tests.samples import FORM, HEAD, SHAPE, some_form, some_head, some_shape, source

KEEP_ALL = (1, 1, (("keep",),) * 5)
FITTING = (7, 9, 40, 206, 31)
# By the first and the third of these HEAD is opened, by the second, the fourth and the fifth others are.
FORMERS = ((1, FITTING), (2, FITTING), (1, FITTING), (1, (7, 9, 41, 206, 30)), (1, (7, 9, 40, 207, 31)))
DOUBTS = ((1, 0, 13), (3, 2, 41), (4, 3, 201))


def doubts_by_all(shape, form, head, formers):
    """Every doubt, in the order of formers."""
    bits = pieces(shape, form, head)
    told = []
    for k, (more, former) in enumerate(formers):
        other = opened(shape, form, bits, former, more)
        places = [place for place in range(len(head)) if other[place] != head[place]]
        if places:
            told.append((k, places[0], other[places[0]]))
    return told


class Doubts(unittest.TestCase):
    def test_none_where_sure(self):
        self.assertIs(doubt(SHAPE, KEEP_ALL, HEAD, ()), None)
        self.assertIs(doubt(SHAPE, KEEP_ALL, HEAD, FORMERS[:1]), None)
        self.assertIs(doubt(SHAPE, KEEP_ALL, HEAD, (FORMERS[0], FORMERS[2])), None)
        self.assertIs(doubt(SHAPE, (1, 1, (("whole",),) * 5), HEAD, FORMERS), None)

    def test_the_first_of_formers(self):
        self.assertEqual(doubt(SHAPE, KEEP_ALL, HEAD, FORMERS), (1, 0, 13))
        self.assertEqual(doubt(SHAPE, KEEP_ALL, HEAD, FORMERS[:1] + FORMERS[2:]), (2, 2, 41))
        self.assertEqual(doubt(SHAPE, KEEP_ALL, HEAD, FORMERS[3:]), (0, 2, 41))
        self.assertEqual(doubt(SHAPE, KEEP_ALL, HEAD, FORMERS[4:]), (0, 3, 201))
        self.assertEqual(doubt(SHAPE, KEEP_ALL, HEAD, FORMERS[::-1]), (0, 3, 201))

    def test_the_first_place_and_the_value_there(self):
        for place in range(5):
            head = HEAD[:place] + (HEAD[place] ^ 1,) + HEAD[place + 1:]
            told = doubt(SHAPE, KEEP_ALL, head, FORMERS[:1])
            if place == 0:
                # The with is opened by what is opened ahead of it, so it is as in HEAD; the step comes first.
                self.assertEqual(told, (0, 0, 10))
            else:
                self.assertEqual(told, (0, place, HEAD[place]))

    def test_several_places_otherwise(self):
        for places in itertools.combinations(range(5), 3):
            head = tuple(value ^ (place in places) for place, value in enumerate(HEAD))
            self.assertEqual(doubt(SHAPE, KEEP_ALL, head, FORMERS[:1]), (0, places[0], HEAD[places[0]]))

    def test_a_window_that_is_missed_tells_another_value_of_the_same_rest(self):
        shape = ((("a", 8, ("still",)),), 1)
        form = (1, 1, (("low", 3, 2),))
        for value in range(256):
            told = doubt(shape, form, (value,), ((1, (100,)),))
            if 98 <= value <= 105:
                self.assertIs(told, None)
            else:
                self.assertEqual(told[:2], (0, 0))
                self.assertEqual(told[2] % 8, value % 8)
                self.assertTrue(98 <= told[2] <= 105)

    def test_told_is_a_tuple_of_whole_numbers(self):
        told = doubt(SHAPE, KEEP_ALL, HEAD, FORMERS)
        self.assertIs(type(told), tuple)
        self.assertEqual([type(part) for part in told], [int, int, int])

    def test_what_is_handed_in_stays_and_is_told_the_same_again(self):
        held = copy.deepcopy(FORMERS)
        self.assertEqual(doubt(SHAPE, FORM, HEAD, FORMERS), doubt(SHAPE, FORM, HEAD, FORMERS))
        self.assertEqual(FORMERS, held)

    def test_drawn_ones(self):
        drawn = source(1)
        several = 0
        for _ in range(400):
            shape = some_shape(drawn, 4)
            form, head = some_form(drawn, shape), some_head(drawn, shape)
            formers = tuple((drawn.randint(1, 400), some_head(drawn, shape)) for _ in range(drawn.randint(0, 4)))
            every = doubts_by_all(shape, form, head, formers)
            several += len(every) > 1
            self.assertEqual(doubt(shape, form, head, formers), every[0] if every else None)
            self.assertIs(sure(shape, form, head, formers), not every)
            for told in every:
                self.assertIs(shows_doubt(shape, form, head, formers, told), True)
        self.assertGreater(several, 50)


class ShowsDoubt(unittest.TestCase):
    def holds(self, thing, formers=FORMERS):
        self.assertIs(shows_doubt(SHAPE, KEEP_ALL, HEAD, formers, thing), True, repr(thing)[:200])

    def fails(self, thing, formers=FORMERS):
        self.assertIs(shows_doubt(SHAPE, KEEP_ALL, HEAD, formers, thing), False, repr(thing)[:200])

    def test_what_doubt_tells(self):
        for begin in range(5):
            formers = FORMERS[begin:]
            self.holds(doubt(SHAPE, KEEP_ALL, HEAD, formers), formers)

    def test_for_whichever_of_formers(self):
        for thing in DOUBTS:
            self.holds(thing)

    def test_no_other_tuple_of_numbers(self):
        for k, place in itertools.product(range(-6, 8), range(-6, 8)):
            for value in (-1, 0, 10, 13, 30, 31, 40, 41, 194, 200, 201, 10 ** 29):
                thing = (k, place, value)
                (self.holds if thing in DOUBTS else self.fails)(thing)

    def test_another_number_place_or_value(self):
        for k, place, value in DOUBTS:
            for other in (-5, -1, 1, 5, 256, 10 ** 29):
                for thing in ((k + other, place, value), (k, place + other, value), (k, place, value + other)):
                    (self.holds if thing in DOUBTS else self.fails)(thing)

    def test_a_later_place_that_is_otherwise_too(self):
        # The fourth of formers opens 41 at the third place and 30 at the last one.
        self.holds((3, 2, 41))
        self.fails((3, 4, 30))

    def test_none_where_sure(self):
        for formers in ((), FORMERS[:1], (FORMERS[0], FORMERS[2])):
            for thing in DOUBTS + tuple((k, place, value) for k in range(3) for place, value in enumerate(HEAD)):
                self.fails(thing, formers)
            self.fails(None, formers)

    def test_no_number_in_a_numbers_place(self):
        for thing in DOUBTS:
            for other in parts_otherwise(thing, 0, 1, 2):
                self.fails(other)

    def test_truths_that_are_like_the_numbers(self):
        shape = ((("a", 1, ("still",)), ("b", 1, ("still",))), 1)
        form, head = (1, 1, (("keep",),) * 2), (0, 0)
        formers = ((1, (0, 0)), (1, (0, 1)))
        self.assertIs(shows_doubt(shape, form, head, formers, (1, 1, 1)), True)
        self.assertIs(shows_doubt(shape, form, (1, 1), formers, (0, 0, 0)), True)
        for head, alike in (((0, 0), (1, True)), ((0, 0), (1, 1.0)), ((1, 1), (0, False)), ((1, 1), (0, 0.0))):
            for thing in itertools.product(alike, repeat=3):
                plain = all(type(part) is int for part in thing)
                self.assertIs(shows_doubt(shape, form, head, formers, thing), plain)

    def test_as_a_list_longer_or_shorter(self):
        for thing in DOUBTS:
            for other in tuples_otherwise(thing):
                self.fails(other)
            self.fails(thing[:0])
            self.fails(thing + thing)

    def test_things_of_other_kinds(self):
        for thing in OTHERS:
            self.fails(thing)
            self.fails((thing,) * 3)
            self.fails((1, 0, thing))
            self.fails((thing, thing, 13))
        for thing in DOUBTS:
            self.fails(nested(tuple, thing, 59))
            self.fails(nested(list, thing, 1))

    def test_what_is_asked_stays_and_is_told_the_same_again(self):
        for thing in (DOUBTS[0], list(DOUBTS[0]), {"a": [DOUBTS]}):
            held = copy.deepcopy(thing)
            for _ in range(2):
                self.assertIs(shows_doubt(SHAPE, KEEP_ALL, HEAD, FORMERS, thing), thing == DOUBTS[0])
            self.assertEqual(thing, held)


if __name__ == "__main__":
    unittest.main()
