import copy
import unittest

from shorthead.errors import HeadError, NoText
from shorthead.pacts import is_pact
from shorthead.texts import read_head, read_pact, show_head, show_pact
from tests.others import OTHERS
from tests.samples import some_head, some_pact, source

FIELDS = (
    ("serial", 16, ("step", 1)),
    ("time", 32, ("with", 0, -20)),
    ("mood", 4, ("turn", (3, 7, 5))),
    ("house", 8, ("still",)),
    ("seal", 3, ("drawn",)),
)
FORMS = (
    (4, 3, (("keep",), ("low", 4, 2), ("keep",), ("keep",), ("whole",))),
    (40, 40, (("whole",), ("low", 32, 0), ("low", 1, 1), ("keep",), ("low", 3, 7))),
)
PACT = ((FIELDS, 251), 16, FORMS, (1, 4, 2, 50))
ROWS = (
    "field serial 16 step 1",
    "field time 32 with serial -20",
    "field mood 4 turn 3 7 5",
    "field house 8 still",
    "field seal 3 drawn",
    "check 251",
    "wide 16",
    "road 1 4 2 50",
    "form 4 3 = 4-2 = = *",
    "form 40 40 * 32-0 1-1 = 3-7",
)
TEXT = "\n".join(ROWS)
LEAST = "field a 1 still\ncheck 1\nwide 1\nroad 0 0 0 0"


def with_row(at, row, rows=ROWS):
    return "\n".join(rows[:at] + (row,) + rows[at + 1:])


class Shown(unittest.TestCase):
    def test_a_pact(self):
        self.assertEqual(show_pact(PACT), TEXT)
        self.assertEqual(show_pact((((("a", 1, ("still",)),), 1), 1, (), (0, 0, 0, 0))), LEAST)

    def test_a_head(self):
        self.assertEqual(show_head((7,)), "7")
        self.assertEqual(show_head((10, 0, 2 ** 40 - 1)), "10.0.1099511627775")

    def test_kinds(self):
        self.assertIs(type(show_pact(PACT)), str)
        self.assertIs(type(show_head((7,))), str)

    def test_what_is_handed_in_stays(self):
        held = copy.deepcopy(PACT)
        self.assertEqual(show_pact(PACT), show_pact(PACT))
        self.assertEqual(PACT, held)


class ReadAgain(unittest.TestCase):
    def same(self, text):
        pact = read_pact(text)
        self.assertTrue(is_pact(pact), text)
        self.assertEqual(show_pact(pact), text)
        self.assertEqual(read_pact(show_pact(pact)), pact)
        return pact

    def test_what_is_written(self):
        self.assertEqual(self.same(TEXT), PACT)
        self.assertEqual(self.same(LEAST), (((("a", 1, ("still",)),), 1), 1, (), (0, 0, 0, 0)))

    def test_drawn_pacts(self):
        drawn = source(1)
        for _ in range(300):
            pact = some_pact(drawn)
            text = show_pact(pact)
            self.assertEqual(read_pact(text), pact)
            self.assertEqual(self.same(text), pact)

    def test_no_forms_and_twelve(self):
        for many in range(13):
            text = LEAST + "\nform 1 1 =" * many
            self.assertEqual(len(self.same(text)[2]), many)

    def test_how_many_fields(self):
        for many in range(1, 13):
            rows = [f"field {name} 1 still" for name in "abcdefghijkl"[:many]]
            pact = self.same("\n".join(rows) + LEAST[len("field a 1 still"):])
            self.assertEqual(len(pact[0][0]), many)

    def test_bounds_of_every_number(self):
        top = 2 ** 40 - 1
        for row in ("a 1 still", "a 40 drawn", "abcdefgh 40 still", "a 1 step 0", "a 1 step 1", f"a 40 step {top}",
                    "a 1 turn 0 1", "a 1 turn 1 0", f"a 40 turn {top} 0", "a 4 turn 11 10 9 8 7 6 5 4 3 2 1 0"):
            self.same(with_row(0, "field " + row, tuple(LEAST.split("\n"))))
        for number in (-99, -98, -10, -1, 0, 1, 9, 98, 99):
            pact = self.same(with_row(1, f"field time 32 with serial {number}"))
            self.assertEqual(pact[0][0][1][2], ("with", 0, number))
        for at, rows in ((5, ("check 1", "check 10", f"check {10 ** 6}")), (6, ("wide 1", "wide 9", "wide 40")),
                         (7, ("road 0 0 0 0", "road 39 39 20 400", "road 39 400 0 0", "road 0 400 20 1")),
                         (8, ("form 1 1 = = = = =", "form 40 40 * * * * *", "form 1 40 1-0 1-1 4-15 8-255 3-0",
                              "form 40 1 16-65535 32-4294967295 2-3 = 2-0"))):
            for row in rows:
                self.same(with_row(at, row))

    def test_a_with_of_each_field_ahead(self):
        rows = [f"field {name} 8 still" for name in "abcdef"]
        for place, name in enumerate("abcdef"):
            pact = self.same("\n".join(rows + [f"field g 8 with {name} 3"]) + LEAST[len("field a 1 still"):])
            self.assertEqual(pact[0][0][6][2], ("with", place, 3))

    def test_names_like_the_words(self):
        names = ("field", "check", "wide", "road", "form", "still", "turn", "with", "drawn", "step")
        rows = [f"field {name} 8 with {before} 1" for before, name in zip(names, names[1:])]
        self.same("\n".join(["field field 8 still"] + rows) + LEAST[len("field a 1 still"):])

    def test_heads(self):
        drawn = source(2)
        for _ in range(200):
            shape = some_pact(drawn)[0]
            head = some_head(drawn, shape)
            self.assertEqual(read_head(shape, show_head(head)), head)
            self.assertEqual(show_head(read_head(shape, show_head(head))), show_head(head))
        self.assertIs(type(read_head(PACT[0], "1.2.3.4.5")), tuple)


class NoPacts(unittest.TestCase):
    def fails(self, thing, row):
        for _ in range(2):
            with self.assertRaises(NoText, msg=repr(thing)[:300]) as caught:
                read_pact(thing)
            self.assertIs(type(caught.exception), NoText)
            self.assertIsInstance(caught.exception, HeadError)
            self.assertEqual(caught.exception.row, row, repr(thing)[:300])

    def row_fails(self, at, row):
        self.fails(with_row(at, row), at)

    def test_no_text(self):
        for thing in OTHERS + (TEXT.encode(), [TEXT], list(ROWS), ROWS, (TEXT,), {0: TEXT}, PACT):
            self.fails(thing, None)

    def test_an_empty_text(self):
        self.fails("", 0)
        self.fails("\n", 0)
        self.fails("\n" + TEXT, 0)

    def test_blanks(self):
        for at, row in enumerate(ROWS):
            self.row_fails(at, " " + row)
            self.row_fails(at, row + " ")
            self.row_fails(at, row.replace(" ", "\t", 1))
            self.row_fails(at, row + "\t")
            self.row_fails(at, row + "\r")
            for place, sign in enumerate(row):
                if sign == " ":
                    self.row_fails(at, row[:place] + " " + row[place:])
                    self.row_fails(at, row[:place] + row[place + 1:])

    def test_an_empty_row(self):
        for at in range(len(ROWS) + 1):
            self.fails("\n".join(ROWS[:at] + ("",) + ROWS[at:]), at)
            self.fails("\n".join(ROWS[:at] + (" ",) + ROWS[at:]), at)
        for at in range(len(ROWS)):
            self.row_fails(at, "")

    def test_a_last_line_feed(self):
        for many in range(1, len(ROWS) + 1):
            self.fails("\n".join(ROWS[:many]) + "\n", many)

    def test_great_letters_and_other_words(self):
        for at, row in enumerate(ROWS):
            words = row.split(" ")
            for place, word in enumerate(words):
                for other in (word.upper(), word.capitalize()):
                    if other != word:
                        self.row_fails(at, " ".join(words[:place] + [other] + words[place + 1:]))
            self.row_fails(at, row.replace(words[0], words[0] + "s", 1))
            self.row_fails(at, row.replace(words[0], words[0][:-1], 1))
        for kind in ("stil", "stills", "", "low", "keep", "=", "*", "kept", "turn", "step", "with"):
            self.row_fails(3, "field house 8 " + kind)

    def test_words_more_or_fewer(self):
        for at, row in enumerate(ROWS):
            words = row.split(" ")
            for more in ("0", "x", "=", "still"):
                if not (at == 2 and more == "0"):
                    self.row_fails(at, row + " " + more)
            for place in range(len(words)):
                if not (at == 2 and place > 3):
                    self.row_fails(at, " ".join(words[:place] + words[place + 1:]))
            self.row_fails(at, words[0])

    def test_numbers_not_so_written(self):
        for at, row in enumerate(ROWS):
            words = row.split(" ")
            for place, word in enumerate(words):
                if word.isdigit():
                    for other in ("0" + word, "00", "-" + word, "+" + word, word + ".0", "0x1", "1_0", word + "-", "-",
                                  "\u0661", "1e1", "\u00b2", "None", "True", "-0", word + "0" * 15, "0" * 15 + word):
                        self.row_fails(at, " ".join(words[:place] + [other] + words[place + 1:]))

    def test_fifteen_figures_and_sixteen(self):
        # Fifteen may be written, but are too great for each number there is; they are refused as well.
        for at, row in ((0, "field serial 16 step {}"), (5, "check {}"), (6, "wide {}"), (7, "road 1 4 2 {}"),
                        (8, "form {} 3 = 4-2 = = *")):
            for figures in ("9" * 15, "9" * 16, "1" + "0" * 15, "9" * 3000):
                self.row_fails(at, row.format(figures))

    def test_the_s_of_a_with(self):
        for other in ("-0", "--1", "+1", "-", "", "-01", "01", "100", "-100", "- 1", "1-", "x", "-" + "9" * 15, "-x"):
            self.row_fails(1, "field time 32 with serial " + other)

    def test_ways_not_so_written(self):
        for way in ("", "==", "=*", "**", "4", "-", "4-", "-4", "4--2", "04-2", "4-02", "4-2-1", "4_2", "4.2", "+4-2", "4-+2",
                    "0-0", "33-0", "1-2", "4-16", "4-00", "x", "keep", "low", "whole", "4-2=", "=4-2", "4 -2", "4- 2",
                    "40-0", "1" + "0" * 15 + "-0", "4-" + "1" * 16, "-1-0", "4--1"):
            self.row_fails(8, f"form 4 3 = {way} = = *")
        for way in ("9-0", "8-256"):
            self.row_fails(8, f"form 4 3 = 4-2 = {way} *")

    def test_values_beyond(self):
        for at, rows in (
            (0, ("field serial 0 step 0", "field serial 41 step 1", "field serial 1 step 2", "field serial 16 step 65536",
                 "field abcdefghi 16 step 1", "field a1 16 step 1", "field a_ 16 step 1", "field A 16 step 1",
                 "field \u00e4 16 step 1", "field = 16 step 1")),
            (2, ("field mood 4 turn 3", "field mood 4 turn 3 16", "field mood 4 turn 3 7 3", "field mood 4 turn 7 7",
                 "field mood 4 turn 0 1 2 3 4 5 6 7 8 9 10 11 12")),
            (5, ("check 0", "check 1000001")),
            (6, ("wide 0", "wide 41")),
            (7, ("road 40 400 2 50", "road 5 4 2 50", "road 1 401 2 50", "road 1 4 21 50", "road 1 4 2 401")),
            (8, ("form 0 3 = 4-2 = = *", "form 41 3 = 4-2 = = *", "form 4 0 = 4-2 = = *", "form 4 41 = 4-2 = = *",
                 "form 4 3 = 4-2 = =", "form 4 3 = 4-2 = = * =", "form 4 3", "form 4")),
        ):
            for row in rows:
                self.row_fails(at, row)

    def test_a_name_alike(self):
        for at in range(1, 5):
            for first in range(at):
                name = ROWS[first].split(" ")[1]
                self.row_fails(at, f"field {name} 8 still")
        # The first of all faults is told: here the second of three alike.
        self.fails("\n".join(("field a 8 still",) * 3), 1)

    def test_a_with_of_a_field_that_isnt_ahead(self):
        for name in ("time", "mood", "house", "seal", "nobody", "", "0", "Serial", "serials", "seria"):
            self.row_fails(1, f"field time 32 with {name} -20")
        self.fails("field a 8 with a 1\n" + TEXT, 0)
        self.fails("field a 8 with b 1\nfield b 8 still\ncheck 1\nwide 1\nroad 0 0 0 0", 0)

    def test_the_thirteenth_field(self):
        rows = tuple(f"field {name} 1 still" for name in "abcdefghijklmn")
        rest = tuple(LEAST.split("\n")[1:])
        self.assertTrue(is_pact(read_pact("\n".join(rows[:12] + rest))))
        self.fails("\n".join(rows[:13] + rest), 12)
        self.fails("\n".join(rows + rest), 12)
        self.fails("\n".join(rows), 12)

    def test_the_thirteenth_form(self):
        for many in (13, 14, 20):
            self.fails(LEAST + "\nform 1 1 =" * many, 16)

    def test_rows_that_lack(self):
        for many in range(1, 8):
            self.fails("\n".join(ROWS[:many]), many)
        for many in range(8, 11):
            self.assertEqual(len(read_pact("\n".join(ROWS[:many]))[2]), many - 8)
        for many in range(1, 4):
            self.fails("\n".join(LEAST.split("\n")[:many]), many)

    def test_rows_out_of_their_turn(self):
        for at in range(5, 8):
            # One row less: what stands there now is out of its turn.
            self.fails("\n".join(ROWS[:at] + ROWS[at + 1:]), at)
            # One row twice: the second one is.
            self.fails("\n".join(ROWS[:at + 1] + ROWS[at:]), at + 1)
        for at in range(4, 9):
            # Two rows the other way round, but for two fields or two forms.
            if at != 8:
                self.fails("\n".join(ROWS[:at] + (ROWS[at + 1], ROWS[at]) + ROWS[at + 2:]), {4: 5}.get(at, at))
        for at in range(6, 11):
            self.fails("\n".join(ROWS[:at] + ("field other 8 still",) + ROWS[at:]), at)
        for at in range(0, 8):
            self.fails("\n".join(ROWS[:at] + (ROWS[8],) + ROWS[at:]), at)
        self.fails("\n".join(ROWS[5:]), 0)
        self.fails("\n".join(ROWS + ("check 251",)), 10)
        self.fails("\n".join(ROWS + ("road 1 4 2 50",)), 10)
        self.fails(TEXT + "\n" + TEXT, 10)

    def test_the_first_of_several(self):
        for first in range(len(ROWS)):
            for second in range(first + 1, len(ROWS)):
                rows = list(ROWS)
                rows[first] = rows[second] = "x"
                self.fails("\n".join(rows), first)
                rows[first] = ROWS[first] + " "
                self.fails("\n".join(rows), first)


class NoHeads(unittest.TestCase):
    def fails(self, thing, shape=PACT[0]):
        with self.assertRaises(NoText, msg=repr(thing)[:300]) as caught:
            read_head(shape, thing)
        self.assertIs(type(caught.exception), NoText)
        self.assertIs(caught.exception.row, None)

    def test_as_it_is_written(self):
        self.assertEqual(read_head(PACT[0], "65535.0.15.255.7"), (65535, 0, 15, 255, 7))

    def test_no_text(self):
        for thing in OTHERS + (b"1.2.3.4.5", (1, 2, 3, 4, 5), ["1.2.3.4.5"], 1.2, ("1", "2", "3", "4", "5")):
            self.fails(thing)

    def test_not_so_written(self):
        for text in ("", ".", "1", "1.2.3.4", "1.2.3.4.5.6", "1.2.3.4.5.", ".1.2.3.4.5", "1..3.4.5", "1.2.3.4.", "1 2 3 4 5",
                     "1,2,3,4,5", " 1.2.3.4.5", "1.2.3.4.5 ", "1. 2.3.4.5", "1.2.3.4.5\n", "01.2.3.4.5", "1.00.3.4.5",
                     "-1.2.3.4.5", "1.-0.3.4.5", "+1.2.3.4.5", "x.2.3.4.5", "1.2.3.4.\u0665", "1_0.2.3.4.5",
                     "1.2.3.4.0x5", "1.2.3.4.5\t"):
            self.fails(text)

    def test_values_beyond(self):
        for text in ("65536.0.0.0.0", "0.4294967296.0.0.0", "0.0.16.0.0", "0.0.0.256.0", "0.0.0.0.8",
                     "0.0.0.0." + "1" * 15, "0.0.0.0." + "0" * 16, "0.0.0.0." + "1" * 3000):
            self.fails(text)

    def test_of_one_field(self):
        shape = ((("a", 40, ("still",)),), 1)
        self.assertEqual(read_head(shape, "1099511627775"), (2 ** 40 - 1,))
        for text in ("1099511627776", "", "1.", ".1", "1.1", "-1"):
            self.fails(text, shape)


if __name__ == "__main__":
    unittest.main()
