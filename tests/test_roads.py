import copy
import unittest

from shorthead.errors import Beyond, NoDeed, NoHead, NoMore, NoPlace
from shorthead.letters import letter_size, parted, pressed_letter, whole_letter
from shorthead.roads import Road
from tests.others import NO_NUMBERS, OTHERS, nested, tuples_otherwise

SHAPE = ((("a", 8, ("step", 1)), ("b", 4, ("still",))), 100)
KEEPS = (("keep",), ("keep",))
# The second form tells more and goes less far, so it is never the shortest.
PACT = (SHAPE, 9, ((40, 6, KEEPS), (3, 6, (("low", 3, 0), ("keep",)))), (1, 4, 2, 0))
PLACED = ("come", "copy", "lose", "word", "echo", "drop")


def head_at(number):
    return (number % 256, 9)


def road_behind(*deeds, pact=PACT, sent=0):
    road = Road(pact)
    for number in range(sent):
        road.do(("press", head_at(number)))
    for deed in deeds:
        road.do(deed)
    return road


def state(road):
    presser = (road.presser.sent(), road.presser.formers(40))
    return (road.letters(), road.words(), road.heads(), road.top(), road.kept(), road.known(), presser)


def numbers(road):
    return [number for number, _ in road.letters()]


class Deeds(unittest.TestCase):
    def test_a_new_road(self):
        road = Road(PACT)
        self.assertEqual((road.letters(), road.words(), road.heads(), road.kept()), ([], [], [], {}))
        self.assertIs(road.top(), None)
        self.assertEqual(road.known(), (None, None, 0))

    def test_press(self):
        road = Road(PACT)
        for number in range(5):
            at = None if number < 2 else 0
            self.assertEqual(road.do(("press", head_at(number))), ("sent", number, letter_size(PACT, at)))
        letters = [(number, whole_letter(PACT, number, head_at(number))) for number in range(2)]
        letters += [(number, pressed_letter(PACT, 0, number, head_at(number))) for number in range(2, 5)]
        self.assertEqual(road.letters(), letters)
        self.assertEqual(road.heads(), [head_at(number) for number in range(5)])
        self.assertEqual((road.words(), road.top(), road.kept(), road.known()), ([], None, {}, (None, None, 0)))

    def test_come(self):
        road = road_behind(sent=4)
        self.assertEqual(road.do(("come", 1)), ("read", 1, head_at(1)))
        self.assertEqual((numbers(road), road.words(), road.top()), ([0, 2, 3], [("have", 1)], 1))
        self.assertEqual(road.do(("come", 2)), ("read", 3, head_at(3)))
        self.assertEqual((numbers(road), road.words(), road.top()), ([0, 2], [("have", 1), ("have", 3)], 3))
        self.assertEqual(road.kept(), {1: head_at(1), 3: head_at(3)})
        self.assertEqual(len(road.heads()), 4)

    def test_copy(self):
        road = road_behind(sent=3)
        self.assertEqual(road.do(("copy", 1)), ("read", 1, head_at(1)))
        self.assertEqual(road.do(("copy", 1)), ("twice", 1))
        self.assertEqual(road.do(("copy", 0)), ("read", 0, head_at(0)))
        self.assertEqual((numbers(road), road.words()), ([0, 1, 2], [("have", 1), ("have", 1), ("have", 0)]))
        self.assertEqual(road.do(("come", 1)), ("twice", 1))
        self.assertEqual((numbers(road), len(road.words())), ([0, 2], 4))

    def test_lose(self):
        road = road_behind(sent=3)
        before = state(road)
        self.assertEqual(road.do(("lose", 1)), ("done",))
        self.assertEqual(numbers(road), [0, 2])
        self.assertEqual(state(road)[1:], before[1:])
        self.assertEqual(road.do(("lose", 1)), ("done",))
        self.assertEqual(numbers(road), [0])

    def test_not_read(self):
        road = road_behind(sent=4)
        self.assertEqual(road.do(("come", 3)), ("not", "blank"))
        self.assertEqual((numbers(road), road.words(), road.top()), ([0, 1, 2], [("anew",)], None))

    def test_word(self):
        road = road_behind(("come", 0), ("come", 0), ("come", 0), sent=5)
        self.assertEqual(road.words(), [("have", 0), ("have", 1), ("have", 2)])
        self.assertEqual(road.do(("word", 1)), ("done",))
        self.assertEqual((road.words(), road.known()), ([("have", 0), ("have", 2)], (1, 1, 0)))
        self.assertEqual(road.do(("word", 0)), ("done",))
        self.assertEqual((road.words(), road.known()), ([("have", 2)], (1, 1, 0)))

    def test_echo(self):
        road = road_behind(("come", 0), ("come", 0), sent=3)
        for _ in range(2):
            self.assertEqual(road.do(("echo", 1)), ("done",))
            self.assertEqual((road.words(), road.known()), ([("have", 0), ("have", 1)], (1, 1, 0)))

    def test_drop(self):
        road = road_behind(("come", 0), ("come", 0), sent=3)
        self.assertEqual(road.do(("drop", 0)), ("done",))
        self.assertEqual((road.words(), road.known()), ([("have", 1)], (None, None, 0)))

    def test_an_anew_that_is_heard(self):
        road = road_behind(("come", 3), sent=4)
        self.assertEqual(road.do(("echo", 0)), ("done",))
        self.assertEqual((road.words(), road.known()), ([("anew",)], (None, None, 4)))
        self.assertEqual(road.do(("press", head_at(4))), ("sent", 4, letter_size(PACT, None)))
        self.assertEqual(road.do(("word", 0)), ("done",))
        self.assertEqual((road.words(), road.known()), ([], (None, None, 5)))

    def test_forget(self):
        road = road_behind(("come", 0), ("come", 0), ("word", 0), sent=4)
        before = state(road)
        self.assertEqual(road.do(("forget",)), ("done",))
        self.assertEqual((road.top(), road.kept()), (None, {}))
        self.assertEqual((state(road)[:3], state(road)[5:]), (before[:3], before[5:]))
        self.assertEqual(road.do(("come", 0)), ("not", "blank"))

    def test_two_roads_are_each_by_itself(self):
        first, second = Road(PACT), Road(PACT)
        first.do(("press", head_at(0)))
        first.do(("come", 0))
        self.assertEqual(state(second), state(Road(PACT)))

    def test_kinds(self):
        road = road_behind(("copy", 0), sent=3)
        for deed in (("press", head_at(3)), ("come", 0), ("copy", 0), ("lose", 0), ("echo", 0), ("word", 0), ("drop", 0),
                     ("forget",)):
            self.assertIs(type(road.do(deed)), tuple)
        self.assertEqual([type(part) for part in state(road)], [list, list, list, type(None), dict, tuple, tuple])


class Own(unittest.TestCase):
    def test_lists_and_dicts_are_the_askers_own(self):
        road = road_behind(("copy", 0), ("copy", 1), sent=3)
        before = copy.deepcopy(state(road))
        for ask in (road.letters, road.words, road.heads, road.kept):
            self.assertIsNot(ask(), ask())
            ask().clear()
            self.assertEqual(state(road), before)
        road.letters().append((9, "1"))
        road.words().append(("anew",))
        road.heads().append(head_at(9))
        road.kept()[9] = head_at(9)
        self.assertEqual(state(road), before)

    def test_what_was_told_stays_as_it_was(self):
        road = road_behind(("copy", 0), sent=2)
        told = state(road)
        held = copy.deepcopy(told)
        for deed in (("press", head_at(2)), ("come", 1), ("word", 0), ("lose", 0), ("forget",)):
            road.do(deed)
        self.assertEqual(told, held)


class Refusing(unittest.TestCase):
    def refused(self, error, road, deed):
        before = copy.deepcopy(state(road))
        with self.assertRaises(error, msg=repr(deed)[:200]) as caught:
            road.do(deed)
        self.assertIs(type(caught.exception), error, repr(deed)[:200])
        self.assertEqual(state(road), before)


class Refused(Refusing):
    def test_no_deed(self):
        road = road_behind(("copy", 0), ("copy", 1), sent=3)
        for thing in OTHERS:
            self.refused(NoDeed, road, thing)
        for word in PLACED:
            for other in [number for number in NO_NUMBERS if number is not None] + [None, -1, -10 ** 29]:
                self.refused(NoDeed, road, (word, other))
            for thing in ((word,), (word, 0, 0), [word, 0], ((word, 0),), (word.upper(), 0), (word + " ", 0), word,
                          (word.encode(), 0), (0, word), {word: 0}, (word, 0, None), (" " + word, 0)):
                self.refused(NoDeed, road, thing)
        for thing in tuples_otherwise(("forget",)):
            self.refused(NoDeed, road, thing)
        for thing in (("press",), ("press", head_at(3), 1), ["press", head_at(3)], ("Press", head_at(3)), "press",
                      (head_at(3), "press"), ("press",) + head_at(3), ("forget", 0), ("forgets",), ("sent", 0),
                      ("read", 0), ("have", 0), ("anew",), ("done",), nested(tuple, ("forget",), 59)):
            self.refused(NoDeed, road, thing)

    def test_whatever_is_behind_press(self):
        road = road_behind(sent=2)
        for thing in OTHERS + ((2,), (2, 16), (256, 9), (2, 9, 9), [2, 9], (True, 9), head_at, nested(list, 1, 58)):
            self.refused(NoHead, road, ("press", thing))
        self.assertEqual(road.do(("press", head_at(2)))[:2], ("sent", 2))

    def test_no_more(self):
        pact = PACT[:1] + (2,) + PACT[2:]
        road = road_behind(pact=pact, sent=4)
        self.refused(NoMore, road, ("press", head_at(4)))
        self.refused(NoHead, road, ("press", (256, 9)))
        self.assertEqual(road.do(("come", 0)), ("read", 0, head_at(0)))

    def test_no_place(self):
        for sent in (0, 1, 3):
            road = road_behind(sent=sent)
            for k in (sent, sent + 1, 10 ** 29):
                for word in ("come", "copy", "lose"):
                    self.refused(NoPlace, road, (word, k))
            for k in (0, 1, sent, 10 ** 29):
                for word in ("word", "echo", "drop"):
                    self.refused(NoPlace, road, (word, k))
        road = road_behind(("copy", 0), ("copy", 0), sent=1)
        for word in ("word", "echo", "drop"):
            self.refused(NoPlace, road, (word, 2))
            self.refused(NoPlace, road, (word, 3))
        road.do(("drop", 1))
        self.assertEqual(road.words(), [("have", 0)])

    def test_no_deed_ahead_of_no_place(self):
        for word in PLACED:
            self.refused(NoDeed, Road(PACT), (word, -1))
            self.refused(NoDeed, Road(PACT), (word, True))
            self.refused(NoPlace, Road(PACT), (word, 0))


class MayNotCome(Refusing):
    def deeds_at(self, road, number, beyond):
        k = numbers(road).index(number)
        for word in ("come", "copy"):
            if beyond:
                self.refused(Beyond, road, (word, k))
            else:
                other = copy.deepcopy(road)
                self.assertIn(other.do((word, k))[0], ("read", "twice", "not"))

    def test_more_than_late_were_sent_behind_it_up_to_one_that_came(self):
        for late in (0, 1, 2, 5):
            pact = PACT[:3] + ((1, 400, late, 1),)
            for came in (0, 1, 5, 9):
                road = road_behind(("copy", came), pact=pact, sent=12)
                for number in range(12):
                    self.deeds_at(road, number, came - number > late)

    def test_those_sent_later_count_up_to_the_one_that_came_alone(self):
        road = road_behind(("copy", 0), ("copy", 2), sent=3)
        for number in range(3, 20):
            road.do(("press", head_at(number)))
        self.deeds_at(road, 0, False)

    def test_lost_ones_were_sent_too(self):
        road = road_behind(("copy", 0), ("copy", 3), ("lose", 1), ("lose", 1), sent=5)
        self.deeds_at(road, 0, True)

    def test_whatever_that_one_was_told(self):
        # 4 is of a form and comes to a reader without a top.
        road = road_behind(("come", 4), sent=5)
        self.assertEqual((road.top(), road.words()), (None, [("anew",)]))
        for number, beyond in ((0, True), (1, True), (2, False), (3, False)):
            self.deeds_at(road, number, beyond)

    def test_whatever_was_forgotten_since(self):
        road = road_behind(("copy", 0), ("copy", 1), ("copy", 3), ("forget",), sent=5)
        for number, beyond in ((0, True), (1, False), (2, False), (3, False), (4, False)):
            self.deeds_at(road, number, beyond)

    def test_what_was_refused_has_not_come(self):
        road = road_behind(("copy", 0), sent=9)
        self.deeds_at(road, 6, True)
        self.deeds_at(road, 0, False)

    def test_lost_ones_have_not_come(self):
        road = road_behind(("copy", 0), ("lose", 8), sent=9)
        self.deeds_at(road, 0, False)

    def test_losing_is_never_refused_for_it(self):
        road = road_behind(("copy", 0), ("copy", 4), sent=20)
        for number in (0, 19, 10, 1):
            self.assertEqual(road.do(("lose", numbers(road).index(number))), ("done",))

    def test_of_a_form_more_than_gap_and_one_above_the_top(self):
        for gap in (1, 2, 4, 9):
            pact = PACT[:3] + ((1, gap, 20, 0),)
            for top in (0, 1):
                road = road_behind(("copy", top), pact=pact, sent=15)
                for number, letter in road.letters():
                    of_form = parted(pact, letter)[0] is not None
                    self.deeds_at(road, number, of_form and number > top + gap + 1)

    def test_a_far_one_raises_the_top_too(self):
        pact = (SHAPE, 9, ((2, 9, KEEPS),), (1, 4, 2, 0))
        road = road_behind(("copy", 0), ("copy", 5), pact=pact, sent=15)
        self.assertEqual((road.words(), road.top()), ([("have", 0), ("anew",)], 5))
        for number in range(3, 15):
            self.deeds_at(road, number, number > 10)

    def test_whole_ones_come_from_however_far(self):
        pact = PACT[:2] + ((), (0, 0, 2, 0))
        road = road_behind(("copy", 0), pact=pact, sent=100)
        self.assertEqual(road.do(("copy", 99)), ("read", 99, head_at(99)))
        self.deeds_at(road, 96, True)
        self.deeds_at(road, 97, False)

    def test_without_a_top_those_of_forms_come_from_however_far(self):
        road = road_behind(sent=100)
        self.assertEqual(road.do(("copy", 99)), ("not", "blank"))
        road = road_behind(("copy", 0), ("forget",), sent=100)
        self.assertEqual(road.do(("copy", 99)), ("not", "blank"))

    def test_no_place_ahead_of_beyond(self):
        road = road_behind(("copy", 0), ("copy", 4), sent=5)
        self.refused(NoPlace, road, ("come", 5))
        self.refused(Beyond, road, ("come", 0))


if __name__ == "__main__":
    unittest.main()
