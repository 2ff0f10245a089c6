"""Texts: pacts and heads written, and read again."""

from shorthead.errors import NoText
from shorthead.pacts import are_forms, is_road, is_wide
from shorthead.shapes import are_fields, is_head, is_shape


def show_pact(pact):
    """The text that writes a pact."""
    shape, wide, forms, road = pact
    rows = [show_field(shape[0], field) for field in shape[0]]
    rows = rows + [f"check {shape[1]}", f"wide {wide}", "road " + show_words(road)]
    return "\n".join(rows + [show_form(form) for form in forms])


def show_field(fields, field):
    """The row that writes one of these fields."""
    name, breadth, kind = field
    if kind[0] == "turn":
        return f"field {name} {breadth} turn " + show_words(kind[1])
    if kind[0] == "with":
        return f"field {name} {breadth} with {fields[kind[1]][0]} {kind[2]}"
    return f"field {name} {breadth} " + show_words(kind)


def show_form(form):
    """The row that writes a form."""
    reach, count, ways = form
    return f"form {reach} {count} " + show_words([show_way(way) for way in ways])


def show_way(way):
    """The word that writes a way."""
    if way[0] == "keep":
        return "="
    if way[0] == "whole":
        return "*"
    return f"{way[1]}-{way[2]}"


def show_words(parts):
    """Numbers and texts with blanks between."""
    return " ".join([str(part) for part in parts])


def show_head(head):
    """The text that writes a head."""
    return ".".join([str(value) for value in head])


def read_head(shape, text):
    """The head of this shape that a thing, of any kind, writes."""
    if not isinstance(text, str):
        raise NoText(None)
    head = tuple([number_read(word) for word in text.split(".")])
    if not is_head(shape, head):
        raise NoText(None)
    return head


def read_pact(text):
    """The pact that a thing, of any kind, writes."""
    if not isinstance(text, str):
        raise NoText(None)
    rows = [row.split(" ") for row in text.split("\n")]
    # Each row is asked as far as those ahead of it tell, so the first wrong one is found first; a row that lacks
    # is asked at the number of how many there are.
    shape = shape_read(rows)
    at = len(shape[0]) + 1
    wide = numbers_read(rows, at, "wide", 1)[0]
    if not is_wide(wide):
        raise NoText(at)
    road = numbers_read(rows, at + 1, "road", 4)
    if not is_road(road):
        raise NoText(at + 1)
    return (shape, wide, forms_read(shape, rows, at + 2), road)


def shape_read(rows):
    """The shape that the rows up to the check write."""
    fields = ()
    while len(fields) < len(rows) and rows[len(fields)][0] == "field":
        longer = fields + (field_read(fields, rows[len(fields)]),)
        if not are_fields(longer):
            raise NoText(len(fields))
        fields = longer
    shape = (fields, numbers_read(rows, len(fields), "check", 1)[0])
    if not is_shape(shape):
        raise NoText(len(fields))
    return shape


def forms_read(shape, rows, begin):
    """The tuple of the forms that the rows from begin on write."""
    forms = ()
    for at in range(begin, len(rows)):
        forms = forms + (form_read(rows[at]),)
        if not are_forms(shape, forms):
            raise NoText(at)
    return forms


def numbers_read(rows, at, word, many):
    """The tuple of the numbers behind a word in a row, which is to have so many; None for what is no number."""
    if at >= len(rows) or len(rows[at]) != 1 + many or rows[at][0] != word:
        raise NoText(at)
    return tuple([number_read(number) for number in rows[at][1:]])


def field_read(fields, words):
    """What these words write as a field behind others, None or no field where it is none."""
    if len(words) < 4:
        return None
    names = [field[0] for field in fields]
    return (words[1], number_read(words[2]), kind_read(names, words[3:]))


def kind_read(names, words):
    """What these words write as a field's kind behind fields of these names, None or no kind where it is none."""
    if len(words) == 1:
        return (words[0],)
    if words[0] == "step" and len(words) == 2:
        return ("step", number_read(words[1]))
    if words[0] == "turn":
        return ("turn", tuple([number_read(word) for word in words[1:]]))
    if words[0] == "with" and len(words) == 3 and words[1] in names:
        return ("with", names.index(words[1]), signed_read(words[2]))
    return None


def form_read(words):
    """What these words write as a form, None or no form where it is none."""
    if len(words) < 3 or words[0] != "form":
        return None
    return (number_read(words[1]), number_read(words[2]), tuple([way_read(word) for word in words[3:]]))


def way_read(word):
    """What this word writes as a way, no way where it is none."""
    if word == "=":
        return ("keep",)
    if word == "*":
        return ("whole",)
    width, dash, below = word.partition("-")
    return ("low", number_read(width), number_read(below))


def number_read(word):
    """The number that a word writes by figures, None where it is none."""
    if not 1 <= len(word) <= 15 or not all(["0" <= sign <= "9" for sign in word]):
        return None
    if word[0] == "0" and word != "0":
        return None
    return int(word)


def signed_read(word):
    """The number that a word writes by figures, perhaps below nought, None where it is none."""
    if not word.startswith("-"):
        return number_read(word)
    number = number_read(word[1:])
    if number is None or number == 0:
        return None
    return -number
