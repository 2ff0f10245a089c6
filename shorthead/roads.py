"""Roads: a presser and a reader, letters on the way between them and words on the way back."""

from shorthead.errors import Beyond, NoDeed, NoPlace
from shorthead.letters import sort_told
from shorthead.pressers import Presser
from shorthead.readers import Reader, word_of
from shorthead.things import is_whole, is_worded

LETTER_DEEDS = ("come", "copy", "lose")
WORD_DEEDS = ("word", "echo", "drop")
DONE = ("done",)


def is_placed(thing, deeds):
    """Whether a thing is one of these deeds with a place."""
    if not any([is_worded(thing, deed, 2) for deed in deeds]):
        return False
    return is_whole(thing[1]) and thing[1] >= 0


class Road:
    """A road of a pact, with what is on the way in both directions."""

    def __init__(self, pact):
        self.pact = pact
        self.presser = Presser(pact)
        self.reader = Reader(pact)
        self.under_way = []
        self.coming_back = []
        self.furthest = None

    def do(self, deed):
        """What is told of a deed, which is of any kind."""
        if is_worded(deed, "press", 2):
            return self.send(deed[1])
        if is_worded(deed, "forget", 1):
            self.reader.forget()
            return DONE
        if is_placed(deed, LETTER_DEEDS):
            return self.do_letter(deed[0], deed[1])
        if is_placed(deed, WORD_DEEDS):
            return self.do_word(deed[0], deed[1])
        raise NoDeed("no deed of a road")

    def letters(self):
        """The list of (number, letter) on the way."""
        return list(self.under_way)

    def words(self):
        """The list of words on the way back."""
        return list(self.coming_back)

    def heads(self):
        """The list of all heads that were pressed."""
        return list(self.presser.pressed)

    def top(self):
        """The reader's top."""
        return self.reader.top()

    def kept(self):
        """What the reader keeps."""
        return self.reader.kept()

    def known(self):
        """What the presser knows."""
        return self.presser.known()

    def send(self, head):
        """Presses a head and puts its letter on the way."""
        number = self.presser.sent()
        letter = self.presser.press(head)
        self.under_way.append((number, letter))
        return ("sent", number, len(letter))

    def do_letter(self, deed, k):
        """Has the k-th letter come, or its copy, or loses it."""
        if k >= len(self.under_way):
            raise NoPlace("no such letter on the way")
        told = DONE
        if deed != "lose":
            number, letter = self.under_way[k]
            told = self.arrive(number, letter)
        if deed != "copy":
            self.under_way.pop(k)
        return told

    def do_word(self, deed, k):
        """Has the k-th word heard, or its echo, or drops it."""
        if k >= len(self.coming_back):
            raise NoPlace("no such word on the way back")
        if deed != "drop":
            self.presser.heard(self.coming_back[k])
        if deed != "echo":
            self.coming_back.pop(k)
        return DONE

    def arrive(self, number, letter):
        """Has a letter read, and puts its word on the way back."""
        if self.is_overtaken(number) or self.is_ahead(number, letter):
            raise Beyond("a letter that may not come now")
        told = self.reader.read(letter)
        self.furthest = number if self.furthest is None else max(self.furthest, number)
        self.coming_back.append(word_of(told))
        return told

    def is_overtaken(self, number):
        """Whether more than late were sent behind a letter up to one that came."""
        return self.furthest is not None and self.furthest - number > self.pact[3][2]

    def is_ahead(self, number, letter):
        """Whether a letter is of a form, and too far above the reader's top."""
        if sort_told(self.pact, letter) is None or self.top() is None:
            return False
        return number - self.top() > self.pact[3][1] + 1
