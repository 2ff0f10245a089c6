"""Drawn roads: what happens on them, deed by deed."""

from shorthead.errors import Beyond
from shorthead.letters import parted
from tests.samples import next_head, some_head

# How often a letter is pressed, comes in its turn, comes out of turn, is copied, is lost; a word is heard in its turn,
# out of turn, echoed, dropped; the reader forgets.
CALM = (12, 12, 0, 0, 1, 6, 0, 0, 2, 0)
WILD = (12, 6, 6, 3, 3, 3, 3, 2, 4, 0)
FORGETFUL = (24, 18, 6, 3, 3, 9, 3, 3, 4, 1)
MUTE = (12, 9, 3, 2, 2, 0, 0, 0, 12, 0)
LOSING = (12, 3, 1, 1, 8, 4, 1, 1, 1, 0)
TEMPERS = (CALM, WILD, FORGETFUL, MUTE, LOSING)


def some_deed(drawn, road, temper, head):
    """A deed that may be done as far as places go."""
    kinds = ("press", "first", "come", "copy", "lose", "heard", "word", "echo", "drop", "forget")
    many, words = len(road.letters()), len(road.words())
    while True:
        kind = drawn.choices(kinds, temper)[0]
        if kind == "press":
            return (kind, head)
        if kind == "forget":
            return (kind,)
        if kind in ("heard", "word", "echo", "drop"):
            if words:
                return ("word", 0) if kind == "heard" else (kind, drawn.randrange(words))
        elif many:
            # Those out of turn come soon enough, more often than not, to be taken still.
            return ("come", 0) if kind == "first" else (kind, drawn.randrange(min(many, 6)))


class Traveller:
    """A road and the heads that go on it, and what came so far."""

    def __init__(self, drawn, road, pact, temper):
        self.drawn = drawn
        self.road = road
        self.pact = pact
        self.temper = temper
        self.head = some_head(drawn, pact[0])
        self.came = []

    def deed(self):
        return some_deed(self.drawn, self.road, self.temper, self.head)

    def letter_of(self, deed):
        return self.road.letters()[deed[1]]

    def is_whole(self, deed):
        return parted(self.pact, self.letter_of(deed)[1])[0] is None

    def done(self, deed):
        """What the road tells of a deed; a letter that may not come is lost, and None is told."""
        number = self.letter_of(deed)[0] if deed[0] in ("come", "copy") else None
        try:
            told = self.road.do(deed)
        except Beyond:
            self.road.do(("lose", deed[1]))
            return None
        if number is not None:
            self.came.append(number)
        if deed[0] == "press":
            self.head = next_head(self.drawn, self.pact[0], self.head)
        return told
