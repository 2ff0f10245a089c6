"""Letters: a head as bits, told whole or by a form, with its number ahead and its check behind."""

from shorthead.bits import are_bits, bits_of, number_of, width_for
from shorthead.errors import NoLetter
from shorthead.forms import pieces, size_of
from shorthead.shapes import check_of
from shorthead.windows import rest_of


def form_at(pact, at):
    """The form at a place, or for None one by which a whole letter is made as the others are."""
    if at is None:
        # Its reach is never asked: a whole letter is opened without a former head.
        return (1, pact[1], (("whole",),) * len(pact[0][0]))
    return pact[2][at]


def sort_width(pact):
    """How many bits tell a letter's sort."""
    return width_for(1 + len(pact[2]))


def check_width(pact):
    """How many bits tell a letter's check."""
    return width_for(pact[0][1])


def letter_size(pact, at):
    """How many bits a letter has, at being its form's place, or None for a whole one."""
    form = form_at(pact, at)
    return sort_width(pact) + form[1] + size_of(pact[0], form) + check_width(pact)


def whole_letter(pact, number, head):
    """The letter that tells a number and a head whole."""
    return letter_by(pact, None, number, head)


def pressed_letter(pact, at, number, head):
    """The letter that tells a number and a head by the form at a place."""
    return letter_by(pact, at, number, head)


def letter_by(pact, at, number, head):
    """The letter of a number and a head, at being its form's place, or None for a whole one."""
    form = form_at(pact, at)
    sort = bits_of(0 if at is None else 1 + at, sort_width(pact))
    rest = bits_of(rest_of(number, form[1]), form[1])
    check = bits_of(check_of(pact[0], number, head), check_width(pact))
    return sort + rest + pieces(pact[0], form, head) + check


def sort_told(pact, bits):
    """The place of the form, None for a whole letter, that the sort at the begin of bits tells."""
    sort = number_of(bits[:sort_width(pact)])
    if sort > len(pact[2]):
        raise NoLetter("a sort of no form")
    return None if sort == 0 else sort - 1


def parted(pact, letter):
    """(at, number, pieces, check) of a thing, of any kind, that is a letter of this pact."""
    if not are_bits(letter):
        raise NoLetter("no bits")
    at = sort_told(pact, letter)
    # Bits too few for a sort are too few for every letter, so this finds them too.
    if len(letter) != letter_size(pact, at):
        raise NoLetter("not as many bits as its sort asks for")
    begin = sort_width(pact)
    behind = begin + form_at(pact, at)[1]
    last = len(letter) - check_width(pact)
    check = number_of(letter[last:])
    if check >= pact[0][1]:
        raise NoLetter("a check that no letter has")
    return (at, number_of(letter[begin:behind]), letter[behind:last], check)
