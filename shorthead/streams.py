"""Streams: several pacts side by side, each letter with its stream's number ahead."""

from shorthead.bits import are_bits, bits_of, number_of, width_for
from shorthead.errors import NoLetter, NoStream
from shorthead.letters import letter_size, parted, sort_told, sort_width
from shorthead.pressers import Presser
from shorthead.readers import Reader
from shorthead.things import is_between


def ask_stream(stream, many):
    """Refuses a thing, of any kind, that is none of so many streams' numbers."""
    if not is_between(stream, 0, many - 1):
        raise NoStream("no number of a stream")


def stream_told(bits, many):
    """The number of the stream, one of so many, that the begin of bits tells."""
    stream = number_of(bits[:width_for(many)])
    if stream >= many:
        raise NoLetter("a stream that there isn't")
    return stream


def unbundled(pacts, bits):
    """The tuple of the streams' letters that stand one behind another in bits, a thing of any kind."""
    if not are_bits(bits):
        raise NoLetter("no bits")
    letters = []
    begin = 0
    while begin < len(bits):
        behind = begin + first_size(pacts, bits, begin)
        letters.append(bits[begin:behind])
        begin = behind
    return tuple(letters)


def first_size(pacts, bits, begin):
    """The size of the one letter of a stream that bits from begin on can begin with."""
    width = width_for(len(pacts))
    pact = pacts[stream_told(bits[begin:begin + width], len(pacts))]
    begin_letter = begin + width
    at = sort_told(pact, bits[begin_letter:begin_letter + sort_width(pact)])
    size = letter_size(pact, at)
    # This refuses a letter that is cut off by the row's end, or whose check is none.
    parted(pact, bits[begin_letter:begin_letter + size])
    return width + size


class Sender:
    """The pressing ends of several streams."""

    def __init__(self, pacts):
        self.pressers = [Presser(pact) for pact in pacts]

    def press(self, stream, head):
        """The bits of a stream's number and of its letter of a head, which is its next one."""
        ask_stream(stream, len(self.pressers))
        return bits_of(stream, width_for(len(self.pressers))) + self.pressers[stream].press(head)

    def heard(self, stream, word):
        """Takes a word that came back of a stream."""
        ask_stream(stream, len(self.pressers))
        self.pressers[stream].heard(word)


class Receiver:
    """The reading ends of several streams."""

    def __init__(self, pacts):
        self.readers = [Reader(pact) for pact in pacts]

    def read(self, bits):
        """(stream, what its reader tells) of a thing, of any kind, that comes as a letter of a stream."""
        if not are_bits(bits):
            raise NoLetter("no bits")
        many = len(self.readers)
        stream = stream_told(bits, many)
        return (stream, self.readers[stream].read(bits[width_for(many):]))

    def forget(self, stream):
        """Has a stream's reader forget all that came."""
        ask_stream(stream, len(self.readers))
        self.readers[stream].forget()
