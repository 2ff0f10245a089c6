"""Pressers: the end that numbers heads and tells each by the shortest letter that may go."""

from shorthead.doubts import doubt
from shorthead.errors import NoHead, NoMore, NoWord
from shorthead.letters import letter_by, letter_size
from shorthead.shapes import is_head
from shorthead.things import is_between, is_worded


def former_heads(heads, reach):
    """The tuple of (more, head) for the heads at most reach ahead of the next one, the nearest first."""
    many = len(heads)
    return tuple([(more, heads[many - more]) for more in range(1, min(reach, many) + 1)])


class Presser:
    """The pressing end: what it pressed, and what it heard of the other end."""

    def __init__(self, pact):
        self.pact = pact
        self.pressed = []
        self.had = None
        self.base = None
        self.fresh = 0

    def press(self, head):
        """The letter of a head, which is the next one."""
        self.ask_head(head)
        number = self.sent()
        if number == 1 << self.pact[1]:
            raise NoMore("all numbers are used up")
        letter = letter_by(self.pact, self.shortest(head), number, head)
        self.pressed.append(head)
        return letter

    def heard(self, word):
        """Takes a word that came back."""
        if is_worded(word, "anew", 1):
            self.fresh = self.sent()
            self.base = None
        elif is_worded(word, "have", 2) and is_between(word[1], 0, self.sent() - 1):
            self.heard_of(word[1])
        else:
            raise NoWord("no word that may come back")

    def sent(self):
        """The next number."""
        return len(self.pressed)

    def known(self):
        """(had, base, fresh), None for what there isn't."""
        return (self.had, self.base, self.fresh)

    def formers(self, reach):
        """The tuple of (more, head) by which a form of this reach must be sure of the next head."""
        return former_heads(self.pressed, reach)

    def why_not(self, head, at):
        """The first that hinders the form at a place for a head as the next, or None where it may go."""
        self.ask_head(head)
        return self.hindrance(head, at)

    def usable(self, head):
        """The rising tuple of places of the forms that may go for a head as the next."""
        self.ask_head(head)
        return tuple([at for at in range(len(self.pact[2])) if self.hindrance(head, at) is None])

    def ask_head(self, head):
        """Refuses what is no head."""
        if not is_head(self.pact[0], head):
            raise NoHead("no head of this shape")

    def hindrance(self, head, at):
        """What why_not tells of a head."""
        reach, count = self.pact[2][at][:2]
        if self.is_told_anew():
            return "anew"
        if not self.is_shared(reach):
            return "shared"
        if not self.is_counted(count):
            return "count"
        return doubt(self.pact[0], self.pact[2][at], head, self.formers(reach))

    def heard_of(self, number):
        """Takes that the other end has the head of a number."""
        self.had = number if self.had is None else max(self.had, number)
        # What the other end had ahead of an anew it may have forgotten since.
        if number >= self.fresh:
            self.base = number if self.base is None else max(self.base, number)

    def shortest(self, head):
        """The place of the form by which the next letter is shortest, None where that is the whole one."""
        best = None
        for at in range(len(self.pact[2])):
            # Sizes are asked first, as they are soon told; of as great ones the first stays.
            if letter_size(self.pact, at) < letter_size(self.pact, best) and self.hindrance(head, at) is None:
                best = at
        return best

    def is_told_anew(self):
        """Whether the next number is one that is always told whole."""
        anew = self.pact[3][3]
        return anew != 0 and self.sent() % anew == 0

    def is_shared(self, reach):
        """Whether the other end surely has a head within this reach, by its words or as so few are lost in a row."""
        shared = [] if self.base is None else [self.base]
        before = self.sent() - 1 - self.pact[3][0]
        if before >= self.fresh:
            shared.append(before)
        return any([number >= self.sent() - reach for number in shared])

    def is_counted(self, count):
        """Whether the next number's rest in so many bits tells it to the other end, whatever came there so far."""
        gap, late = self.pact[3][1:3]
        least = max(0, self.sent() - 1 - gap)
        if self.had is not None:
            least = max(least, self.had - late)
        return 1 << count > self.sent() + late - least
