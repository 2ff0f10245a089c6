"""The promise over the whole, on long drawn roads."""

import collections
import unittest

from shorthead.doubts import shows_doubt
from shorthead.errors import Beyond
from shorthead.letters import letter_size, parted
from shorthead.roads import Road
from tests.models import PlainRoad
from tests.samples import likely_pact, source
from tests.travels import CALM, LOSING, MUTE, TEMPERS, WILD, Traveller


class AnyRoad(unittest.TestCase):
    """What holds whatever is lost, doubled, overtaken, forgotten, whichever words come back or don't."""

    def test_what_is_read_is_what_went_in(self):
        drawn = source(11)
        told = collections.Counter()
        for number in range(250):
            pact = likely_pact(drawn)
            traveller = Traveller(drawn, Road(pact), pact, TEMPERS[number % len(TEMPERS)])
            for _ in range(drawn.choice((60, 200, 300))):
                self.travel(traveller, told)
        # All of this happened, and often.
        for what in ("pressed", "read pressed", "read whole", "twice", "blank", "far", "beyond"):
            self.assertGreater(told[what], 100, told)

    def travel(self, traveller, told):
        road, deed = traveller.road, traveller.deed()
        if deed[0] == "press":
            size = traveller.done(deed)[2]
            told["pressed"] += size < letter_size(traveller.pact, None)
            return
        if deed[0] not in ("come", "copy"):
            self.assertEqual(traveller.done(deed), ("done",))
            return
        number, whole = traveller.letter_of(deed)[0], traveller.is_whole(deed)
        answer = traveller.done(deed)
        if answer is None:
            told["beyond"] += 1
            return
        if answer[0] == "not":
            self.assertIn(answer[1], ("blank", "far"))
            self.assertFalse(whole)
            told[answer[1]] += 1
        elif answer[0] == "twice":
            self.assertEqual(answer, ("twice", number))
            told["twice"] += 1
        else:
            self.assertEqual(answer, ("read", number, road.heads()[number]))
            told["read whole" if whole else "read pressed"] += 1
        for kept, head in road.kept().items():
            self.assertEqual(head, road.heads()[kept])

    def test_four_hundred_letters(self):
        drawn = source(12)
        for temper in TEMPERS:
            told = collections.Counter()
            pact = likely_pact(drawn, late=20)
            traveller = Traveller(drawn, Road(pact), pact, temper)
            while len(traveller.road.heads()) < 400:
                self.travel(traveller, told)


class NeverForgetting(unittest.TestCase):
    def test_all_that_come_are_read(self):
        drawn = source(13)
        seen = collections.Counter()
        for number in range(150):
            pact = likely_pact(drawn)
            traveller = Traveller(drawn, Road(pact), pact, (CALM, WILD, MUTE, LOSING)[number % 4])
            for _ in range(drawn.choice((60, 200, 300))):
                self.travel(traveller, pact[3][0], seen)
        for what in ("pressed", "read pressed", "read whole", "twice", "hindered"):
            self.assertGreater(seen[what], 100, seen)

    def travel(self, traveller, skips, seen):
        deed = traveller.deed()
        if deed[0] not in ("come", "copy"):
            told = traveller.done(deed)
            seen["pressed"] += deed[0] == "press" and told[2] < letter_size(traveller.pact, None)
            return
        number, whole = traveller.letter_of(deed)[0], traveller.is_whole(deed)
        ahead = range(number - 1 - skips, number)
        if number > skips and not any(other in ahead for other in traveller.came):
            seen["hindered"] += 1
            traveller.road.do(("lose", deed[1]))
            return
        told = traveller.done(deed)
        if told is None:
            return
        self.assertIn(told, (("read", number, traveller.road.heads()[number]), ("twice", number)))
        seen["twice" if told[0] == "twice" else "read whole" if whole else "read pressed"] += 1


class Shortest(unittest.TestCase):
    def test_each_is_the_shortest_and_of_each_other_form_it_is_told_why(self):
        drawn = source(14)
        seen = collections.Counter()
        for number in range(60):
            pact = likely_pact(drawn)
            traveller = Traveller(drawn, Road(pact), pact, TEMPERS[number % len(TEMPERS)])
            for _ in range(150):
                deed = traveller.deed()
                if deed[0] != "press":
                    traveller.done(deed)
                    continue
                may_go = self.looked_at(pact, traveller.road.presser, deed[1], seen)
                sizes = [letter_size(pact, at) for at in [None] + may_go]
                self.assertEqual(traveller.done(deed)[2], min(sizes))
                at = parted(pact, traveller.road.letters()[-1][1])[0]
                self.assertEqual(at, ([None] + may_go)[sizes.index(min(sizes))])
        for what in (None, "anew", "shared", "count", "doubt"):
            self.assertGreater(seen[what], 100, seen)

    def looked_at(self, pact, presser, head, seen):
        """The forms that may go; of the others the reason is looked at."""
        may_go = []
        for at, form in enumerate(pact[2]):
            told = presser.why_not(head, at)
            if told is None:
                may_go.append(at)
            elif not isinstance(told, str):
                self.assertTrue(shows_doubt(pact[0], form, head, presser.formers(form[0]), told))
                told = "doubt"
            seen[told] += 1
        self.assertEqual(presser.usable(head), tuple(may_go))
        return may_go


class AgainstTheWords(unittest.TestCase):
    """The road beside one that is told straight from the document's words."""

    def test_each_deed_is_told_the_same(self):
        drawn = source(15)
        for number in range(60):
            pact = likely_pact(drawn)
            plain = PlainRoad(pact)
            traveller = Traveller(drawn, Road(pact), pact, TEMPERS[number % len(TEMPERS)])
            for _ in range(150):
                deed = traveller.deed()
                try:
                    told = plain.do(deed)
                except Beyond:
                    told = None
                    plain.do(("lose", deed[1]))
                self.assertEqual(traveller.done(deed), told)
                self.alike(traveller.road, plain)

    def alike(self, road, plain):
        self.assertEqual(road.letters(), plain.letters)
        self.assertEqual(road.words(), plain.words)
        self.assertEqual(road.heads(), plain.presser.heads)
        self.assertEqual(road.top(), plain.reader.top)
        self.assertEqual(list(road.kept().items()), list(plain.reader.kept().items()))
        self.assertEqual(road.known(), plain.presser.known())


if __name__ == "__main__":
    unittest.main()
