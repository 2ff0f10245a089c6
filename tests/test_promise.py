"""The promise over the whole, on long drawn roads."""

import collections
import unittest

from shorthead.desk import Desk
from shorthead.doubts import shows_doubt
from shorthead.errors import Beyond
from shorthead.letters import letter_size, parted
from shorthead.pressers import Presser
from shorthead.readers import Reader
from shorthead.roads import Road
from shorthead.streams import Receiver, Sender, unbundled
from shorthead.texts import show_head, show_pact
from tests.models import PlainPresser, PlainReader, PlainRoad
from tests.samples import likely_pact, source
from tests.travels import CALM, LOSING, MUTE, TEMPERS, WILD, Traveller


class AnyRoad(unittest.TestCase):
    """What holds whatever is lost, doubled, overtaken, forgotten, whichever words come back or don't."""

    def test_what_is_read_is_what_went_in(self):
        drawn = source(11)
        told = collections.Counter()
        for number in range(250):
            pact = likely_pact(drawn)
            traveller = Traveller(drawn, Road(pact), pact, TEMPERS[number % len(TEMPERS)])
            for _ in range(drawn.choice((60, 200, 300))):
                self.travel(traveller, told)
        # All of this happened, and often.
        for what in ("pressed", "read pressed", "read whole", "twice", "blank", "far", "beyond"):
            self.assertGreater(told[what], 100, told)

    def travel(self, traveller, told):
        road, deed = traveller.road, traveller.deed()
        if deed[0] == "press":
            size = traveller.done(deed)[2]
            told["pressed"] += size < letter_size(traveller.pact, None)
            return
        if deed[0] not in ("come", "copy"):
            self.assertEqual(traveller.done(deed), ("done",))
            return
        number, whole = traveller.letter_of(deed)[0], traveller.is_whole(deed)
        answer = traveller.done(deed)
        if answer is None:
            told["beyond"] += 1
            return
        if answer[0] == "not":
            self.assertIn(answer[1], ("blank", "far"))
            self.assertFalse(whole)
            told[answer[1]] += 1
        elif answer[0] == "twice":
            self.assertEqual(answer, ("twice", number))
            told["twice"] += 1
        else:
            self.assertEqual(answer, ("read", number, road.heads()[number]))
            told["read whole" if whole else "read pressed"] += 1
        for kept, head in road.kept().items():
            self.assertEqual(head, road.heads()[kept])

    def test_four_hundred_letters(self):
        drawn = source(12)
        for temper in TEMPERS:
            told = collections.Counter()
            pact = likely_pact(drawn, late=20)
            traveller = Traveller(drawn, Road(pact), pact, temper)
            while len(traveller.road.heads()) < 400:
                self.travel(traveller, told)


class NeverForgetting(unittest.TestCase):
    def test_all_that_come_are_read(self):
        drawn = source(13)
        seen = collections.Counter()
        for number in range(150):
            pact = likely_pact(drawn)
            traveller = Traveller(drawn, Road(pact), pact, (CALM, WILD, MUTE, LOSING)[number % 4])
            for _ in range(drawn.choice((60, 200, 300))):
                self.travel(traveller, pact[3][0], seen)
        for what in ("pressed", "read pressed", "read whole", "twice", "hindered"):
            self.assertGreater(seen[what], 100, seen)

    def travel(self, traveller, skips, seen):
        deed = traveller.deed()
        if deed[0] not in ("come", "copy"):
            told = traveller.done(deed)
            seen["pressed"] += deed[0] == "press" and told[2] < letter_size(traveller.pact, None)
            return
        number, whole = traveller.letter_of(deed)[0], traveller.is_whole(deed)
        ahead = range(number - 1 - skips, number)
        if number > skips and not any(other in ahead for other in traveller.came):
            seen["hindered"] += 1
            traveller.road.do(("lose", deed[1]))
            return
        told = traveller.done(deed)
        if told is None:
            return
        self.assertIn(told, (("read", number, traveller.road.heads()[number]), ("twice", number)))
        seen["twice" if told[0] == "twice" else "read whole" if whole else "read pressed"] += 1


class Shortest(unittest.TestCase):
    def test_each_is_the_shortest_and_of_each_other_form_it_is_told_why(self):
        drawn = source(14)
        seen = collections.Counter()
        for number in range(60):
            pact = likely_pact(drawn)
            traveller = Traveller(drawn, Road(pact), pact, TEMPERS[number % len(TEMPERS)])
            for _ in range(150):
                deed = traveller.deed()
                if deed[0] != "press":
                    traveller.done(deed)
                    continue
                may_go = self.looked_at(pact, traveller.road.presser, deed[1], seen)
                sizes = [letter_size(pact, at) for at in [None] + may_go]
                self.assertEqual(traveller.done(deed)[2], min(sizes))
                at = parted(pact, traveller.road.letters()[-1][1])[0]
                self.assertEqual(at, ([None] + may_go)[sizes.index(min(sizes))])
        for what in (None, "anew", "shared", "count", "doubt"):
            self.assertGreater(seen[what], 100, seen)

    def looked_at(self, pact, presser, head, seen):
        """The forms that may go; of the others the reason is looked at."""
        may_go = []
        for at, form in enumerate(pact[2]):
            told = presser.why_not(head, at)
            if told is None:
                may_go.append(at)
            elif not isinstance(told, str):
                self.assertTrue(shows_doubt(pact[0], form, head, presser.formers(form[0]), told))
                told = "doubt"
            seen[told] += 1
        self.assertEqual(presser.usable(head), tuple(may_go))
        return may_go


class AgainstTheWords(unittest.TestCase):
    """The road beside one that is told straight from the document's words."""

    def test_each_deed_is_told_the_same(self):
        drawn = source(15)
        for number in range(60):
            pact = likely_pact(drawn)
            plain = PlainRoad(pact, PlainPresser(pact), PlainReader(pact))
            traveller = Traveller(drawn, Road(pact), pact, TEMPERS[number % len(TEMPERS)])
            for _ in range(150):
                deed = traveller.deed()
                try:
                    told = plain.do(deed)
                except Beyond:
                    told = None
                    plain.do(("lose", deed[1]))
                self.assertEqual(traveller.done(deed), told)
                self.alike(traveller.road, plain)

    def alike(self, road, plain):
        self.assertEqual(road.letters(), plain.letters())
        self.assertEqual(road.words(), plain.words())
        self.assertEqual(road.heads(), plain.presser.heads)
        self.assertEqual(road.top(), plain.reader.top())
        self.assertEqual(list(road.kept().items()), list(plain.reader.kept().items()))
        self.assertEqual(road.known(), plain.presser.known())


class Side:
    """Streams side by side, each with a road of its own beside it that is as if alone."""

    def __init__(self, drawn, pacts):
        self.pacts = pacts
        self.width = {1: 0, 2: 1, 3: 2, 4: 2}.get(len(pacts), 3)
        self.sender = Sender(pacts)
        self.receiver = Receiver(pacts)
        self.travellers = [Traveller(drawn, Road(pact), pact, drawn.choice(TEMPERS)) for pact in pacts]
        self.sent = []

    def bits(self, stream, letter):
        return (bin(stream)[2:].zfill(self.width) if self.width else "") + letter

    def do(self, stream, deed):
        """What the road and what the streams tell of a deed."""
        traveller = self.travellers[stream]
        road = traveller.road
        letter = traveller.letter_of(deed)[1] if deed[0] in ("come", "copy") else None
        word = road.words()[deed[1]] if deed[0] in ("word", "echo") else None
        told = traveller.done(deed)
        if deed[0] == "press":
            self.sent.append(self.sender.press(stream, deed[1]))
            return (self.bits(stream, road.letters()[-1][1]), self.sent[-1])
        if deed[0] == "forget":
            return (None, self.receiver.forget(stream))
        if word is not None:
            return (None, self.sender.heard(stream, word))
        if letter is not None and told is not None:
            return ((stream, told), self.receiver.read(self.bits(stream, letter)))
        return (None, None)


class Streams(unittest.TestCase):
    def test_they_never_mix(self):
        drawn = source(16)
        for many in (1, 2, 3, 5, 8):
            for _ in range(6):
                side = Side(drawn, tuple(likely_pact(drawn) for _ in range(many)))
                for _ in range(150 * many):
                    stream = drawn.randrange(many)
                    alone, together = side.do(stream, side.travellers[stream].deed())
                    self.assertEqual(together, alone)
                for reader, traveller in zip(side.receiver.readers, side.travellers):
                    self.assertEqual((reader.top(), reader.kept()), (traveller.road.top(), traveller.road.kept()))
                for presser, traveller in zip(side.sender.pressers, side.travellers):
                    self.assertEqual(presser.known(), traveller.road.known())
                self.assertEqual(unbundled(side.pacts, "".join(side.sent)), tuple(side.sent))

    def test_the_same_pact_many_times(self):
        drawn = source(17)
        pact = likely_pact(drawn)
        side = Side(drawn, (pact,) * 8)
        for _ in range(1200):
            stream = drawn.randrange(8)
            alone, together = side.do(stream, side.travellers[stream].deed())
            self.assertEqual(together, alone)


class Desks(unittest.TestCase):
    """A desk beside a presser and a reader."""

    def test_it_answers_as_the_road_does(self):
        drawn = source(18)
        for number in range(60):
            pact = likely_pact(drawn)
            desk = Desk(show_pact(pact))
            beside = PlainRoad(pact, Presser(pact), Reader(pact))
            traveller = Traveller(drawn, beside, pact, TEMPERS[number % len(TEMPERS)])
            for _ in range(120):
                self.asked(desk, traveller)
                deed = traveller.deed()
                line = deed[0] if len(deed) == 1 else f"{deed[0]} {self.written(deed[1])}"
                told = traveller.done(deed)
                if told is None:
                    with self.assertRaises(Beyond):
                        desk.say(line)
                    desk.say(f"lose {deed[1]}")
                elif deed[0] == "press":
                    self.assertEqual(desk.say(line), f"{told[1]} {traveller.road.letters()[-1][1]}")
                else:
                    self.assertEqual(desk.say(line), " ".join(self.written(part) for part in told))

    def written(self, part):
        return ".".join(str(value) for value in part) if isinstance(part, tuple) else str(part)

    def asked(self, desk, traveller):
        road, head = traveller.road, traveller.head
        self.assertEqual(desk.say("top"), "-" if road.reader.top() is None else str(road.reader.top()))
        self.assertEqual(desk.say("road"), " ".join(str(number) for number, _ in road.letters()) or "-")
        self.assertEqual(desk.say("words"), "; ".join(" ".join(str(p) for p in word) for word in road.words()) or "-")
        usable = road.presser.usable(head)
        self.assertEqual(desk.say("usable " + show_head(head)), " ".join(str(at) for at in usable) or "-")
        for at, form in enumerate(traveller.pact[2]):
            told = road.presser.why_not(head, at)
            if told is None:
                told = "may"
            elif not isinstance(told, str):
                name = traveller.pact[0][0][told[1]][0]
                told = f"doubt {road.presser.formers(form[0])[told[0]][0]} {name} {told[2]}"
            self.assertEqual(desk.say(f"why {at} {show_head(head)}"), told)


if __name__ == "__main__":
    unittest.main()
