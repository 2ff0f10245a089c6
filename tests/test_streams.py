import copy
import unittest

from shorthead.errors import NoHead, NoLetter, NoMore, NoStream, NoWord
from shorthead.letters import letter_size, parted, pressed_letter, whole_letter
from shorthead.pressers import Presser
from shorthead.readers import Reader, word_of
from shorthead.streams import Receiver, Sender, unbundled
from tests.others import NO_NUMBERS, OTHERS
from tests.samples import likely_pact, next_head, some_head, source

STILL = (("a", 3, ("still",)),)
STEP = (("b", 5, ("step", 1)), ("c", 2, ("drawn",)))
KEEP = (("keep",),)
FIRST = ((STILL, 1), 4, (), (0, 0, 0, 0))
SECOND = ((STILL, 5), 3, ((9, 2, KEEP), (9, 4, KEEP)), (1, 2, 0, 0))
THIRD = ((STEP, 10), 6, ((4, 3, (("keep",), ("whole",))),), (0, 1, 1, 4))
PACTS = (FIRST, SECOND, THIRD)
HEADS = ((5,), (2,), (30, 1))
WIDTHS = {1: 0, 2: 1, 3: 2, 4: 2, 5: 3, 7: 3, 8: 3}

NO_STREAMS = (-10 ** 29, -1, 10 ** 29) + NO_NUMBERS + OTHERS[8:]


def many_pacts(many):
    return (PACTS * 3)[:many]


def begin_of(stream, many):
    return bin(stream)[2:].zfill(WIDTHS[many]) if WIDTHS[many] else ""


class Senders(unittest.TestCase):
    def test_the_streams_number_stands_ahead(self):
        for many in WIDTHS:
            pacts = many_pacts(many)
            sender = Sender(pacts)
            for stream, pact in enumerate(pacts):
                head = HEADS[stream % 3]
                self.assertEqual(sender.press(stream, head), begin_of(stream, many) + whole_letter(pact, 0, head))

    def test_written_out(self):
        sender = Sender(PACTS)
        self.assertEqual(sender.press(0, (5,)), "00" + "0000" + "101")
        self.assertEqual(sender.press(1, (2,)), "01" + "00" + "000" + "010" + "100")
        self.assertEqual(sender.press(1, (2,)), "01" + "00" + "001" + "010" + "000")
        self.assertEqual(sender.press(1, (2,)), "01" + "01" + "10" + "" + "001")
        self.assertEqual(sender.press(2, (30, 1)), "10" + "0" + "000000" + "11110" + "01" + "0011")
        self.assertEqual(Sender(PACTS[:1]).press(0, (5,)), "0000" + "101")

    def test_each_is_as_if_alone(self):
        drawn = source(1)
        for _ in range(40):
            pacts = tuple(likely_pact(drawn) for _ in range(drawn.randint(1, 8)))
            sender, alone = Sender(pacts), [Presser(pact) for pact in pacts]
            heads = [some_head(drawn, pact[0]) for pact in pacts]
            for _ in range(80):
                stream = drawn.randrange(len(pacts))
                if drawn.randrange(2) and alone[stream].sent():
                    word = ("have", drawn.randrange(alone[stream].sent())) if drawn.randrange(9) else ("anew",)
                    self.assertIs(sender.heard(stream, word), None)
                    alone[stream].heard(word)
                    continue
                bits = sender.press(stream, heads[stream])
                letter = alone[stream].press(heads[stream])
                self.assertEqual(bits, bits[:len(bits) - len(letter)] + letter)
                self.assertEqual(int("0" + bits[:len(bits) - len(letter)], 2), stream)
                heads[stream] = next_head(drawn, pacts[stream][0], heads[stream])

    def refused(self, error, sender, ask):
        before = copy.deepcopy([(one.sent(), one.known(), one.formers(40)) for one in sender.pressers])
        with self.assertRaises(error) as caught:
            ask()
        self.assertIs(type(caught.exception), error)
        self.assertEqual([(one.sent(), one.known(), one.formers(40)) for one in sender.pressers], before)

    def test_no_stream(self):
        for many in (1, 2, 3, 8):
            sender = Sender(many_pacts(many))
            sender.press(0, (5,))
            for stream in NO_STREAMS + (many, many + 1, 2 ** WIDTHS[many]):
                self.refused(NoStream, sender, lambda: sender.press(stream, (5,)))
                self.refused(NoStream, sender, lambda: sender.heard(stream, ("anew",)))

    def test_no_stream_ahead_of_what_the_presser_refuses(self):
        sender = Sender((((STILL, 1), 1, (), (0, 0, 0, 0)),))
        for _ in range(2):
            sender.press(0, (5,))
        for stream in (1, -1, True, None, "0"):
            self.refused(NoStream, sender, lambda: sender.press(stream, None))
            self.refused(NoStream, sender, lambda: sender.press(stream, (5,)))
            self.refused(NoStream, sender, lambda: sender.heard(stream, None))

    def test_what_the_presser_refuses(self):
        sender = Sender(PACTS)
        for _ in range(8):
            sender.press(1, (2,))
        self.refused(NoMore, sender, lambda: sender.press(1, (2,)))
        self.refused(NoHead, sender, lambda: sender.press(1, (8,)))
        for thing in OTHERS:
            self.refused(NoHead, sender, lambda: sender.press(0, thing))
            self.refused(NoWord, sender, lambda: sender.heard(1, thing))
        self.refused(NoHead, sender, lambda: sender.press(2, (5,)))
        self.refused(NoWord, sender, lambda: sender.heard(0, ("have", 0)))
        self.assertIs(sender.heard(1, ("have", 7)), None)
        self.assertEqual(sender.press(0, (5,)), "000000101")


class Receivers(unittest.TestCase):
    def state(self, receiver):
        return [(reader.top(), reader.kept()) for reader in receiver.readers]

    def test_the_stream_and_what_is_told(self):
        for many in WIDTHS:
            pacts = many_pacts(many)
            sender, receiver = Sender(pacts), Receiver(pacts)
            for stream in reversed(range(many)):
                head = HEADS[stream % 3]
                bits = sender.press(stream, head)
                self.assertEqual(receiver.read(bits), (stream, ("read", 0, head)))
                self.assertEqual(receiver.read(bits), (stream, ("twice", 0)))

    def test_each_answer(self):
        receiver = Receiver(PACTS)
        pressed = "10" + pressed_letter(THIRD, 0, 5, (5, 0))
        whole = "10" + whole_letter(THIRD, 5, (5, 0))
        self.assertEqual(receiver.read(pressed), (2, ("not", "blank")))
        self.assertEqual(receiver.read(whole), (2, ("read", 5, (5, 0))))
        self.assertEqual(receiver.read(pressed), (2, ("twice", 5)))
        self.assertEqual(receiver.read("10" + whole_letter(THIRD, 3, (3, 0))), (2, ("not", "late")))
        self.assertEqual(receiver.read("10" + pressed_letter(THIRD, 0, 10, (10, 0))), (2, ("not", "far")))
        wrong = whole_letter(THIRD, 11, (11, 0))[:-4] + whole_letter(THIRD, 12, (11, 0))[-4:]
        self.assertEqual(receiver.read("10" + wrong), (2, ("not", "check")))
        self.assertIs(type(receiver.read(whole)), tuple)

    def test_forget_one_and_not_the_others(self):
        receiver = Receiver(PACTS)
        for stream in range(3):
            receiver.read(begin_of(stream, 3) + whole_letter(PACTS[stream], 1, HEADS[stream]))
        self.assertIs(receiver.forget(1), None)
        tops = [top for top, _ in self.state(receiver)]
        self.assertEqual(tops, [1, None, 1])
        self.assertEqual(receiver.read("01" + whole_letter(SECOND, 0, (2,))), (1, ("read", 0, (2,))))
        self.assertEqual(receiver.read("00" + whole_letter(FIRST, 1, (5,))), (0, ("twice", 1)))

    def test_no_stream_is_forgotten(self):
        for many in (1, 2, 3, 8):
            receiver = Receiver(many_pacts(many))
            receiver.read(begin_of(0, many) + whole_letter(FIRST, 1, (5,)))
            before = self.state(receiver)
            for stream in NO_STREAMS + (many, many + 1, 2 ** WIDTHS[many]):
                with self.assertRaises(NoStream) as caught:
                    receiver.forget(stream)
                self.assertIs(type(caught.exception), NoStream)
                self.assertEqual(self.state(receiver), before)

    def no_letters(self, receiver, things):
        before = self.state(receiver)
        for thing in things:
            with self.assertRaises(NoLetter, msg=repr(thing)[:200]) as caught:
                receiver.read(thing)
            self.assertIs(type(caught.exception), NoLetter)
            self.assertEqual(self.state(receiver), before)

    def test_no_letter(self):
        for many in (1, 2, 3, 8):
            receiver = Receiver(many_pacts(many))
            letter = begin_of(0, many) + whole_letter(FIRST, 1, (5,))
            receiver.read(letter)
            self.no_letters(receiver, OTHERS)
            self.no_letters(receiver, ["", "0", "1", letter + "0", letter[:-1], letter + letter, letter.encode()])
            self.no_letters(receiver, [letter[:place] + "2" + letter[place + 1:] for place in range(len(letter))])
            self.no_letters(receiver, [list(letter), (letter,), (0, letter), [0, letter]])

    def test_no_letter_of_a_stream_that_is_none(self):
        receiver = Receiver(PACTS)
        for pact, head in zip(PACTS, HEADS):
            self.no_letters(receiver, ["11" + whole_letter(pact, 0, head), "11"])
        receiver = Receiver(PACTS + PACTS[:2])
        for stream in (5, 6, 7):
            self.no_letters(receiver, [bin(stream)[2:] + whole_letter(FIRST, 0, (5,)), bin(stream)[2:]])

    def test_no_letter_of_that_stream(self):
        receiver = Receiver(PACTS)
        letters = [whole_letter(pact, 0, head) for pact, head in zip(PACTS, HEADS)]
        for stream in range(3):
            for other in range(3):
                if other != stream:
                    self.no_letters(receiver, [begin_of(stream, 3) + letters[other]])
        # A sort of none, and a check that isn't below 5.
        self.no_letters(receiver, ["0111" + "0" * many for many in range(12)])
        self.no_letters(receiver, ["01" + "00" + "000" + "010" + check for check in ("101", "110", "111")])

    def test_each_is_as_if_alone(self):
        drawn = source(2)
        for _ in range(40):
            pacts = tuple(likely_pact(drawn) for _ in range(drawn.randint(1, 8)))
            width = WIDTHS.get(len(pacts), 3)
            receiver, alone = Receiver(pacts), [Reader(pact) for pact in pacts]
            for _ in range(60):
                stream = drawn.randrange(len(pacts))
                pact = pacts[stream]
                if drawn.randrange(20) == 0:
                    receiver.forget(stream)
                    alone[stream].forget()
                at = drawn.choice([None] + list(range(len(pact[2]))))
                number, head = drawn.randrange(20), some_head(drawn, pact[0])
                letter = whole_letter(pact, number, head) if at is None else pressed_letter(pact, at, number, head)
                begin = bin(stream)[2:].zfill(width) if width else ""
                self.assertEqual(receiver.read(begin + letter), (stream, alone[stream].read(letter)))
                self.assertEqual(self.state(receiver), [(reader.top(), reader.kept()) for reader in alone])


class Unbundled(unittest.TestCase):
    def fails(self, pacts, thing):
        with self.assertRaises(NoLetter, msg=repr(thing)[:200]) as caught:
            unbundled(pacts, thing)
        self.assertIs(type(caught.exception), NoLetter)

    def letters(self, many):
        pacts = many_pacts(many)
        told = []
        for stream, pact in enumerate(pacts):
            head = HEADS[stream % 3]
            told += [begin_of(stream, many) + whole_letter(pact, 3, head)]
            told += [begin_of(stream, many) + pressed_letter(pact, at, 3, head) for at in range(len(pact[2]))]
        return pacts, told

    def test_of_nothing(self):
        for many in WIDTHS:
            self.assertEqual(unbundled(many_pacts(many), ""), ())

    def test_of_one(self):
        for many in WIDTHS:
            pacts, letters = self.letters(many)
            for letter in letters:
                self.assertEqual(unbundled(pacts, letter), (letter,))

    def test_of_several_streams_in_one_row(self):
        for many in WIDTHS:
            pacts, letters = self.letters(many)
            for row in (letters, letters[::-1], letters * 3, letters[1:] + letters[:1]):
                told = unbundled(pacts, "".join(row))
                self.assertEqual(told, tuple(row))
                self.assertIs(type(told), tuple)

    def test_of_drawn_rows(self):
        drawn = source(3)
        for _ in range(100):
            pacts = tuple(likely_pact(drawn) for _ in range(drawn.randint(1, 8)))
            sender, receiver = Sender(pacts), Receiver(pacts)
            heads = [some_head(drawn, pact[0]) for pact in pacts]
            row = []
            for _ in range(drawn.randint(0, 30)):
                stream = drawn.randrange(len(pacts))
                row.append(sender.press(stream, heads[stream]))
                heads[stream] = next_head(drawn, pacts[stream][0], heads[stream])
            told = unbundled(pacts, "".join(row))
            self.assertEqual(told, tuple(row))
            for letter in told:
                self.assertEqual(receiver.read(letter)[1][0], "read")

    def test_one_bit_more_or_fewer(self):
        for many in (1, 2, 3, 8):
            pacts, letters = self.letters(many)
            for row in (letters[:1], letters, letters[::-1]):
                bits = "".join(row)
                self.fails(pacts, bits[:-1])
                self.fails(pacts, bits + "0")
                self.fails(pacts, bits + "1")
                # One fewer in the midst cuts all behind it otherwise, at the latest the last one.
                self.fails(pacts, bits + row[0][:-1])

    def test_cut_off_anywhere(self):
        pacts, letters = self.letters(3)
        bits = "".join(letters)
        ends = {sum(len(letter) for letter in letters[:many]): many for many in range(len(letters) + 1)}
        for end in range(len(bits) + 1):
            if end in ends:
                self.assertEqual(unbundled(pacts, bits[:end]), tuple(letters[:ends[end]]))
            else:
                self.fails(pacts, bits[:end])

    def test_a_check_not_below_m_in_the_midst(self):
        good = "01" + "00" + "000" + "010" + "100"
        first = "00" + "0000" + "101"
        self.assertEqual(unbundled(PACTS, first + good + first), (first, good, first))
        for check in ("101", "110", "111"):
            self.fails(PACTS, first + good[:-3] + check + first)
            self.fails(PACTS, good[:-3] + check)
        # That it is not the check of these values isn't asked.
        for check in ("000", "001", "010", "011"):
            other = good[:-3] + check
            self.assertEqual(unbundled(PACTS, first + other + first), (first, other, first))

    def test_a_stream_or_a_sort_of_none_in_the_midst(self):
        first = "00" + "0000" + "101"
        for wrong in ("11" + "0000" + "101", "0111" + "000010100", "11", "0111"):
            self.fails(PACTS, wrong)
            self.fails(PACTS, first + wrong)
            self.fails(PACTS, first + wrong + first)

    def test_things_of_other_kinds(self):
        for pacts in (PACTS, PACTS[:1]):
            for thing in OTHERS:
                self.fails(pacts, thing)
            letter = begin_of(0, len(pacts)) + whole_letter(FIRST, 0, (5,))
            for thing in (letter.encode(), list(letter), (letter,), [letter], " " + letter, letter + "\n", letter + "2"):
                self.fails(pacts, thing)

    def test_a_long_row(self):
        letter = "0000101"
        self.assertEqual(unbundled(PACTS[:1], letter * 5000), (letter,) * 5000)
        self.fails(PACTS[:1], letter * 5000 + "0")


class Together(unittest.TestCase):
    def test_words_go_back_to_their_own_stream(self):
        sender, receiver = Sender((SECOND, SECOND)), Receiver((SECOND, SECOND))
        for _ in range(2):
            stream, told = receiver.read(sender.press(1, (2,)))
            sender.heard(stream, word_of(told))
        self.assertEqual(parted(SECOND, sender.press(1, (2,))[1:])[0], 0)
        self.assertEqual(len(sender.press(0, (2,))), 1 + letter_size(SECOND, None))


if __name__ == "__main__":
    unittest.main()
