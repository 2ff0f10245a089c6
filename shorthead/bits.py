"""Bits: texts of the signs 0 and 1, and the numbers that they write."""


def are_bits(thing):
    """Whether a thing, of any kind, is bits."""
    if not isinstance(thing, str):
        return False
    for sign in thing:
        if sign != "0" and sign != "1":
            return False
    return True


def bits_of(number, width):
    """The bits, as many as width, that write a number, the greatest place first."""
    return "".join([str((number >> place) & 1) for place in reversed(range(width))])


def number_of(bits):
    """The number that bits write."""
    number = 0
    for sign in bits:
        number = number * 2 + int(sign)
    return number


def numbers_of(bits, widths):
    """The list of the numbers that bits write one behind another, each by its width."""
    numbers = []
    begin = 0
    for width in widths:
        numbers.append(number_of(bits[begin:begin + width]))
        begin = begin + width
    return numbers


def width_for(many):
    """The least width that writes so many unlike numbers."""
    width = 0
    room = 1
    while room < many:
        room = room * 2
        width = width + 1
    return width
