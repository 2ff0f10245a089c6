"""Readers: the end that opens letters by the heads that it keeps."""

from shorthead.bits import numbers_of
from shorthead.forms import opened
from shorthead.letters import form_at, parted
from shorthead.shapes import breadths, check_of
from shorthead.windows import windowed


def word_of(told):
    """The word that is sent back for what a reader told."""
    if told[0] == "not":
        return ("anew",)
    return ("have", told[1])


def those_kept(held, bound):
    """Of heads by numbers those from bound on and the greatest one below, by rising numbers."""
    least = max([number for number in held if number < bound], default=bound)
    return {number: held[number] for number in sorted(held) if number >= least}


class Reader:
    """The reading end: the greatest number that came, and the heads that it keeps."""

    def __init__(self, pact):
        self.pact = pact
        self.highest = None
        self.held = {}

    def read(self, letter):
        """What is told of a thing, of any kind, that comes as a letter."""
        at, number, bits, check = parted(self.pact, letter)
        if at is not None:
            if self.highest is None:
                return ("not", "blank")
            number = windowed(self.least(), number, form_at(self.pact, at)[1])
        if self.is_late(number):
            return ("not", "late")
        if number in self.held:
            return ("twice", number)
        if at is not None and self.is_far(number, form_at(self.pact, at)[0]):
            self.rise(number)
            return ("not", "far")
        head = self.head_told(at, number, bits)
        if check_of(self.pact[0], number, head) != check:
            return ("not", "check")
        self.held[number] = head
        self.rise(number)
        return ("read", number, head)

    def forget(self):
        """Forgets all that came."""
        self.highest = None
        self.held = {}

    def top(self):
        """The greatest number taken as come, None where there is none."""
        return self.highest

    def kept(self):
        """The heads that are kept, by rising numbers."""
        return dict(self.held)

    def least(self):
        """The least number that isn't late."""
        return self.highest - self.pact[3][2]

    def is_late(self, number):
        """Whether a number is below all, or too far below the top."""
        return number < 0 or (self.highest is not None and number < self.least())

    def nearest(self, number):
        """The greatest number below this one whose head is kept, None where there is none."""
        return max([other for other in self.held if other < number], default=None)

    def is_far(self, number, reach):
        """Whether no head is kept that is ahead of a number and within reach."""
        former = self.nearest(number)
        return former is None or number - former > reach

    def head_told(self, at, number, bits):
        """The head that a letter's pieces tell, at being its form's place, or None for a whole one."""
        if at is None:
            return tuple(numbers_of(bits, breadths(self.pact[0])))
        former = self.nearest(number)
        return opened(self.pact[0], form_at(self.pact, at), bits, self.held[former], number - former)

    def rise(self, number):
        """Takes a number as come, and keeps no head that needn't be kept any more."""
        self.highest = number if self.highest is None else max(self.highest, number)
        self.held = those_kept(self.held, self.least())
