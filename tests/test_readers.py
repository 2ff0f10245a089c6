import unittest

from shorthead.errors import NoLetter
from shorthead.letters import parted, pressed_letter, whole_letter
from shorthead.readers import Reader, word_of
from tests.models import PlainReader
from tests.others import OTHERS
from tests.samples import likely_pact, some_head, some_heads, source

STEP = ((("a", 8, ("step", 2)), ("b", 4, ("still",))), 100)
KEEPS = (("keep",), ("keep",))
LATE = 3
REACH = 4
# The second form's count has room for one letter behind the top, not more.
PACT = (STEP, 10, ((REACH, 4, KEEPS), (40, 3, KEEPS), (1, 9, (("whole",), ("low", 2, 0)))), (2, 5, LATE, 0))


def head_at(number):
    return (2 * number % 256, 9)


def whole(number, pact=PACT):
    return whole_letter(pact, number, head_at(number))


def pressed(number, at=0, pact=PACT):
    return pressed_letter(pact, at, number, head_at(number))


def wrong_check(letter, pact=PACT):
    """The same letter with another check, one of its kind."""
    check = (parted(pact, letter)[3] + 1) % 100
    return letter[:-7] + bin(check)[2:].zfill(7)


def reader_behind(*letters, pact=PACT):
    reader = Reader(pact)
    for letter in letters:
        reader.read(letter)
    return reader


class Answers(unittest.TestCase):
    def told(self, reader, letter, answer, top, kept):
        self.assertEqual(reader.read(letter), answer)
        self.assertEqual(reader.top(), top)
        self.assertEqual(reader.kept(), {number: head_at(number) for number in kept})

    def test_at_first(self):
        reader = Reader(PACT)
        self.assertIs(reader.top(), None)
        self.assertEqual(reader.kept(), {})

    def test_blank(self):
        reader = Reader(PACT)
        for at in range(3):
            for number in (0, 1, 1000):
                self.told(reader, pressed(number, at), ("not", "blank"), None, [])
        # Its check isn't asked, nor how far it is.
        self.told(reader, wrong_check(pressed(5)), ("not", "blank"), None, [])

    def test_whole_ones_are_read_at_first(self):
        for number in (0, 1, 500, 1023):
            self.told(Reader(PACT), whole(number), ("read", number, head_at(number)), number, [number])

    def test_a_form_is_opened_by_the_greatest_below(self):
        reader = reader_behind(whole(10))
        self.told(reader, pressed(11), ("read", 11, head_at(11)), 11, [10, 11])
        self.told(reader, pressed(14), ("read", 14, head_at(14)), 14, [10, 11, 14])
        self.told(reader, pressed(13), ("read", 13, head_at(13)), 14, [10, 11, 13, 14])
        self.told(reader, pressed(16), ("read", 16, head_at(16)), 16, [11, 13, 14, 16])
        self.told(reader, pressed(15), ("read", 15, head_at(15)), 16, [11, 13, 14, 15, 16])

    def test_it_is_opened_by_the_one_below_also_where_others_are_above(self):
        # Of a drawn row each head is another one: only the nearest below tells the right one.
        shape = ((("a", 8, ("still",)),), 1000)
        pact = (shape, 10, ((9, 4, (("low", 3, 0),)),), (2, 5, LATE, 0))
        reader = Reader(pact)
        for number, value in ((10, 100), (14, 140)):
            reader.read(whole_letter(pact, number, (value,)))
        self.assertEqual(reader.read(pressed_letter(pact, 0, 12, (105,))), ("read", 12, (105,)))
        self.assertEqual(reader.read(pressed_letter(pact, 0, 13, (112,))), ("read", 13, (112,)))
        self.assertEqual(reader.read(pressed_letter(pact, 0, 11, (107,))), ("read", 11, (107,)))

    def test_late_of_whole_ones(self):
        for top in (0, 2, 3, 4, 10, 1023):
            for number in range(max(0, top - 6), top):
                reader = reader_behind(whole(top))
                if number < top - LATE:
                    self.told(reader, whole(number), ("not", "late"), top, [top])
                else:
                    self.told(reader, whole(number), ("read", number, head_at(number)), top, [number, top])

    def test_late_ahead_of_twice_and_check(self):
        reader = reader_behind(whole(10), pressed(14))
        self.told(reader, whole(10), ("not", "late"), 14, [10, 14])
        self.told(reader, wrong_check(whole(10)), ("not", "late"), 14, [10, 14])

    def test_late_of_a_number_below_nought(self):
        # With the top 1 the window of the first form is from -2 on: the rests 14 and 15 are those of -2 and -1.
        for top in (0, 1, 2):
            for rest in range(16):
                reader = reader_behind(whole(top))
                number = rest if rest < 16 + top - LATE else rest - 16
                answer = reader.read(pressed(rest))
                self.assertEqual(answer == ("not", "late"), number < 0, (top, rest))
                if number < 0:
                    self.assertEqual((reader.top(), reader.kept()), (top, {top: head_at(top)}))

    def test_no_form_is_late_where_the_window_is_above_nought(self):
        for rest in range(16):
            self.assertNotEqual(reader_behind(whole(10)).read(pressed(rest)), ("not", "late"))

    def test_twice(self):
        reader = reader_behind(whole(10), pressed(11), pressed(13))
        for number in (10, 11, 13):
            self.told(reader, whole(number), ("twice", number), 13, [10, 11, 13])
            self.told(reader, pressed(number), ("twice", number), 13, [10, 11, 13])
            self.told(reader, wrong_check(whole(number)), ("twice", number), 13, [10, 11, 13])
            # As far as its reach goes isn't asked of one that is kept.
            self.told(reader, pressed(number, 2), ("twice", number), 13, [10, 11, 13])

    def test_not_twice_what_came_and_wasnt_read(self):
        reader = reader_behind(whole(10), pressed(15))
        self.told(reader, pressed(15), ("not", "far"), 15, [10])
        self.told(reader, whole(15), ("read", 15, head_at(15)), 15, [10, 15])
        self.told(reader, whole(15), ("twice", 15), 15, [10, 15])

    def test_far_at_its_bound(self):
        for number in range(11, 11 + 9):
            reader = reader_behind(whole(10))
            if number <= 10 + REACH:
                self.told(reader, pressed(number), ("read", number, head_at(number)), number, [10, number])
            else:
                self.told(reader, pressed(number), ("not", "far"), number, [10])

    def test_far_where_none_is_kept_below(self):
        reader = reader_behind(whole(10))
        for number in (7, 8, 9):
            self.told(reader, pressed(number), ("not", "far"), 10, [10])
        self.told(reader, whole(8), ("read", 8, head_at(8)), 10, [8, 10])
        self.told(reader, pressed(7), ("not", "far"), 10, [8, 10])
        self.told(reader, pressed(9), ("read", 9, head_at(9)), 10, [8, 9, 10])

    def test_far_ahead_of_check(self):
        self.told(reader_behind(whole(10)), wrong_check(pressed(15)), ("not", "far"), 15, [10])

    def test_far_raises_the_top_and_what_is_kept_goes_with_it(self):
        reader = reader_behind(whole(10), pressed(11), pressed(12))
        self.told(reader, pressed(17, 2), ("not", "far"), 17, [12])
        self.told(reader, whole(13), ("not", "late"), 17, [12])
        self.told(reader, whole(14), ("read", 14, head_at(14)), 17, [12, 14])
        self.told(reader, pressed(15, 2), ("read", 15, head_at(15)), 17, [12, 14, 15])

    def test_far_below_the_top_leaves_it(self):
        reader = reader_behind(whole(10), pressed(13))
        self.told(reader, pressed(12, 2), ("not", "far"), 13, [10, 13])

    def test_a_whole_one_is_never_far(self):
        reader = reader_behind(whole(10))
        self.told(reader, whole(900), ("read", 900, head_at(900)), 900, [10, 900])
        self.told(reader, whole(901), ("read", 901, head_at(901)), 901, [10, 900, 901])
        self.told(reader, whole(904), ("read", 904, head_at(904)), 904, [900, 901, 904])

    def test_check(self):
        self.told(Reader(PACT), wrong_check(whole(10)), ("not", "check"), None, [])
        reader = reader_behind(whole(10))
        self.told(reader, wrong_check(whole(11)), ("not", "check"), 10, [10])
        self.told(reader, wrong_check(pressed(11)), ("not", "check"), 10, [10])
        self.told(reader, wrong_check(pressed(14)), ("not", "check"), 10, [10])
        self.told(reader, pressed_letter(PACT, 0, 11, (21, 9)), ("not", "check"), 10, [10])
        self.told(reader, pressed(11), ("read", 11, head_at(11)), 11, [10, 11])

    def test_the_check_is_of_the_number_that_is_told(self):
        # 11 + 16 has the same rest, but another check: it is taken as 11.
        self.told(reader_behind(whole(10)), pressed_letter(PACT, 0, 27, head_at(11)), ("not", "check"), 10, [10])

    def test_the_window_of_numbers(self):
        for number in range(95, 103):
            answer = reader_behind(whole(98)).read(pressed(number, 1))
            self.assertEqual(answer == ("read", number, head_at(number)), 98 < number, number)
            self.assertEqual(answer == ("twice", 98), number == 98, number)
        # 103 has the rest of 95, the least that isn't late, and none is kept below that.
        self.assertEqual(reader_behind(whole(98)).read(pressed(103, 1)), ("not", "far"))
        self.assertEqual(reader_behind(whole(98)).read(pressed(106, 1)), ("twice", 98))

    def test_a_top_of_0(self):
        pact = PACT[:3] + ((0, 0, 0, 0),)
        reader = reader_behind(whole(0, pact), pact=pact)
        self.assertEqual(reader.top(), 0)
        self.assertEqual(reader.read(pressed(0, 0, pact)), ("twice", 0))
        self.assertEqual(reader.read(pressed(1, 0, pact)), ("read", 1, head_at(1)))
        self.assertEqual(reader.kept(), {0: head_at(0), 1: head_at(1)})

    def test_a_whole_letters_values_are_as_they_stand(self):
        pact = (((("a", 4, ("turn", (1, 2))),), 1), 4, (), (0, 0, 0, 0))
        for value in range(16):
            self.assertEqual(Reader(pact).read("0011" + bin(value)[2:].zfill(4)), ("read", 3, (value,)))


class Kept(unittest.TestCase):
    def test_those_from_late_on_and_the_greatest_below(self):
        for late in (0, 1, 2, 5, 20):
            pact = PACT[:3] + ((0, 0, late, 0),)
            for numbers in ((0, 1, 2, 3, 4, 5, 6, 7, 8), (0, 3, 6, 9, 12), (5, 7, 30, 31), (5, 60, 90), (9, 8, 7)):
                reader = Reader(pact)
                taken = []
                for number in numbers:
                    if reader.read(whole(number, pact))[0] == "read":
                        taken.append(number)
                    bound = max(taken) - late
                    below = [number for number in taken if number < bound]
                    kept = [number for number in sorted(taken) if number >= bound or number == max(below)]
                    self.assertEqual(list(reader.kept().items()), [(number, head_at(number)) for number in kept])

    def test_in_rising_order(self):
        reader = reader_behind(whole(10), whole(12), whole(11), whole(9), whole(13))
        self.assertEqual(list(reader.kept()), [9, 10, 11, 12, 13])
        reader = reader_behind(whole(13), whole(10), whole(12), whole(11))
        self.assertEqual(list(reader.kept()), [10, 11, 12, 13])

    def test_it_is_the_askers_own(self):
        reader = reader_behind(whole(10), whole(11))
        told = reader.kept()
        told.clear()
        told[5] = (1, 1)
        self.assertEqual(reader.kept(), {10: head_at(10), 11: head_at(11)})
        self.assertIsNot(reader.kept(), reader.kept())
        held = reader.kept()
        reader.read(whole(12))
        self.assertEqual(list(held), [10, 11])

    def test_kinds(self):
        reader = reader_behind(whole(10))
        self.assertIs(type(reader.kept()), dict)
        self.assertIs(type(reader.top()), int)
        for letter in (pressed(11), pressed(11), pressed(900)):
            self.assertIs(type(reader.read(letter)), tuple)


class Forgetting(unittest.TestCase):
    def test_all_is_as_at_first(self):
        reader = reader_behind(whole(10), pressed(11), pressed(17, 2))
        self.assertIs(reader.forget(), None)
        self.assertIs(reader.top(), None)
        self.assertEqual(reader.kept(), {})
        self.assertEqual(reader.read(pressed(12)), ("not", "blank"))
        self.assertEqual(reader.read(whole(3)), ("read", 3, head_at(3)))
        self.assertEqual((reader.top(), list(reader.kept())), (3, [3]))

    def test_of_nothing_and_twice(self):
        reader = Reader(PACT)
        for _ in range(2):
            self.assertIs(reader.forget(), None)
            self.assertEqual((reader.top(), reader.kept()), (None, {}))

    def test_two_readers_are_each_by_itself(self):
        first, second = reader_behind(whole(10)), Reader(PACT)
        self.assertEqual((second.top(), second.kept()), (None, {}))
        second.read(whole(3))
        second.forget()
        self.assertEqual((first.top(), list(first.kept())), (10, [10]))


class NoLetters(unittest.TestCase):
    def test_refused_and_nothing_is_changed(self):
        for reader in (Reader(PACT), reader_behind(whole(10), pressed(11))):
            before = (reader.top(), reader.kept())
            letters = (whole(11), pressed(12), pressed(12, 2))
            wrong = [letter + "0" for letter in letters] + [letter[:-1] for letter in letters]
            wrong += [letter[:-7] + "1111111" for letter in letters] + ["", "2", "0 1", whole(11).encode()]
            for thing in OTHERS + tuple(wrong):
                with self.assertRaises(NoLetter) as caught:
                    reader.read(thing)
                self.assertIs(type(caught.exception), NoLetter)
                self.assertEqual((reader.top(), reader.kept()), before)

    def test_ahead_of_blank(self):
        with self.assertRaises(NoLetter):
            Reader(PACT).read(pressed(5) + "0")


class Words(unittest.TestCase):
    def test_word_of_each_answer(self):
        self.assertEqual(word_of(("read", 7, (1, 2))), ("have", 7))
        self.assertEqual(word_of(("read", 0, (1, 2))), ("have", 0))
        self.assertEqual(word_of(("twice", 7)), ("have", 7))
        for why in ("blank", "late", "far", "check"):
            self.assertEqual(word_of(("not", why)), ("anew",))

    def test_of_what_a_reader_tells(self):
        reader = Reader(PACT)
        words = [word_of(reader.read(letter)) for letter in (pressed(9), whole(10), whole(10), pressed(20), whole(2))]
        self.assertEqual(words, [("anew",), ("have", 10), ("have", 10), ("anew",), ("anew",)])
        self.assertIs(type(words[0]), tuple)


class Drawn(unittest.TestCase):
    def test_held_against_the_documents_words(self):
        drawn = source(6)
        seen = {}
        for _ in range(300):
            pact = likely_pact(drawn)
            reader, plain = Reader(pact), PlainReader(pact)
            heads = some_heads(drawn, pact[0], 40)
            number = drawn.randrange(5)
            for _ in range(40):
                number = max(0, min(39, number + drawn.choice((-6, -3, -2, -1, 0, 1, 1, 1, 1, 2, 2, 3, 5))))
                head = heads[number] if drawn.randrange(9) else some_head(drawn, pact[0])
                letter = whole_letter(pact, number, head)
                if pact[2] and drawn.randrange(4):
                    letter = pressed_letter(pact, drawn.randrange(len(pact[2])), number, head)
                told = reader.read(letter)
                self.assertEqual(told, plain.read(letter))
                self.assertEqual(reader.top(), plain.top())
                self.assertEqual(list(reader.kept().items()), list(plain.kept().items()))
                seen[told[:2] if told[0] == "not" else told[0]] = True
                if drawn.randrange(60) == 0:
                    reader.forget()
                    plain.forget()
        whys = {("not", why) for why in ("blank", "late", "far", "check")}
        self.assertEqual(set(seen), {"read", "twice"} | whys)


if __name__ == "__main__":
    unittest.main()
