"""A desk: a road that is asked by lines of text and answers by texts."""

from shorthead.errors import NoLine, NoText
from shorthead.roads import LETTER_DEEDS, WORD_DEEDS, Road
from shorthead.texts import number_read, read_head, read_pact, show_head, show_words

NOTHING = "-"


def show_told(told):
    """What a road tells of a deed, in words."""
    if told[0] == "read":
        return f"read {told[1]} " + show_head(told[2])
    return show_words(told)


def number_in(word):
    """The number that a word of a line writes."""
    number = number_read(word)
    if number is None:
        raise NoLine("no number")
    return number


class Desk:
    """A desk with a road of the pact that a text writes."""

    def __init__(self, text):
        self.pact = read_pact(text)
        self.road = Road(self.pact)

    def say(self, line):
        """The answer to a line, which is of any kind."""
        words = line.split(" ") if isinstance(line, str) else []
        if len(words) == 1:
            return self.say_alone(words[0])
        if len(words) == 2:
            return self.say_with(words[0], words[1])
        if len(words) == 3 and words[0] == "why":
            return self.say_why(self.form_in(words[1]), self.head_in(words[2]))
        raise NoLine("no line of a desk")

    def say_alone(self, word):
        """The answer to a line of one word."""
        if word == "forget":
            return show_told(self.road.do(("forget",)))
        if word == "road":
            return show_words([number for number, letter in self.road.letters()]) or NOTHING
        if word == "words":
            return "; ".join([show_words(one) for one in self.road.words()]) or NOTHING
        if word == "top":
            return NOTHING if self.road.top() is None else str(self.road.top())
        raise NoLine("no line of one word")

    def say_with(self, word, other):
        """The answer to a line of two words."""
        if word in LETTER_DEEDS or word in WORD_DEEDS:
            return show_told(self.road.do((word, number_in(other))))
        if word == "press":
            return self.say_press(self.head_in(other))
        if word == "usable":
            return show_words(self.road.presser.usable(self.head_in(other))) or NOTHING
        raise NoLine("no line of two words")

    def say_press(self, head):
        """The number and the letter of a head that is pressed."""
        number = self.road.do(("press", head))[1]
        return f"{number} {self.road.letters()[-1][1]}"

    def say_why(self, at, head):
        """Why the form at a place may not go for a head, or that it may."""
        presser = self.road.presser
        told = presser.why_not(head, at)
        if told is None:
            return "may"
        if isinstance(told, str):
            return told
        k, place, value = told
        more = presser.formers(self.pact[2][at][0])[k][0]
        return f"doubt {more} {self.pact[0][0][place][0]} {value}"

    def form_in(self, word):
        """The form's place that a word of a line writes."""
        at = number_in(word)
        if at >= len(self.pact[2]):
            raise NoLine("no form's place")
        return at

    def head_in(self, word):
        """The head that a word of a line writes."""
        try:
            return read_head(self.pact[0], word)
        except NoText:
            raise NoLine("no head of the shape") from None
