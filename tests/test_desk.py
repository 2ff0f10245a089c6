import unittest

from shorthead.desk import Desk
from shorthead.errors import Beyond, NoLine, NoMore, NoPlace, NoText
from shorthead.letters import pressed_letter, whole_letter
from shorthead.texts import read_pact
from tests.others import OTHERS

TEXT = """field serial 8 step 1
field time 8 with serial 20
field mood 4 turn 3 7 5
check 100
wide 5
road 1 4 2 0
form 2 4 = 3-2 =
form 9 4 = = =
form 9 1 = = ="""
PACT = read_pact(TEXT)
NO_FORMS = "field a 4 still\ncheck 1\nwide 2\nroad 0 0 0 0"
PLACED = ("come", "copy", "lose", "word", "echo", "drop")


def head_at(number):
    return ((10 + number) % 256, (40 + 20 * number) % 256, (3, 7, 5)[number % 3])


def written(head):
    return ".".join(str(value) for value in head)


def press_at(number):
    return "press " + written(head_at(number))


def desk_behind(*lines, text=TEXT, sent=0):
    desk = Desk(text)
    for number in range(sent):
        desk.say(press_at(number))
    for line in lines:
        desk.say(line)
    return desk


def state(desk):
    road = desk.road
    sent = (road.presser.sent(), road.presser.formers(40))
    return (road.letters(), road.words(), road.heads(), road.top(), road.kept(), road.known(), sent)


class Answers(unittest.TestCase):
    def says(self, desk, line, answer):
        self.assertEqual(desk.say(line), answer, line)

    def test_nothing_so_far(self):
        desk = Desk(TEXT)
        for line in ("road", "words", "top", "usable 1.2.3"):
            self.says(desk, line, "-")

    def test_press(self):
        desk = Desk(TEXT)
        for number in range(2):
            self.says(desk, press_at(number), f"{number} " + whole_letter(PACT, number, head_at(number)))
        self.says(desk, press_at(2), "2 " + pressed_letter(PACT, 1, 2, head_at(2)))
        self.says(desk, "press 0.0.0", "3 " + whole_letter(PACT, 3, (0, 0, 0)))
        self.says(desk, "road", "0 1 2 3")

    def test_come_and_copy(self):
        desk = desk_behind(sent=4)
        self.says(desk, "come 3", "not blank")
        self.says(desk, "copy 1", "read 1 11.60.7")
        self.says(desk, "copy 1", "twice 1")
        self.says(desk, "come 1", "twice 1")
        self.says(desk, "road", "0 2")
        self.says(desk, "come 1", "read 2 12.80.5")
        self.says(desk, "road", "0")
        self.says(desk, "top", "2")
        self.says(desk, "words", "anew; have 1; have 1; have 1; have 2")

    def test_far(self):
        # The first form alone, of reach 1: the second letter behind the one that came is too far.
        rows = TEXT.split("\n")[:6]
        desk = desk_behind("lose 1", text="\n".join(rows[:5] + ["road 0 4 2 0", "form 1 4 = 3-2 ="]), sent=3)
        self.says(desk, "come 0", "read 0 10.40.3")
        self.says(desk, "come 0", "not far")
        self.says(desk, "top", "2")

    def test_done(self):
        desk = desk_behind("copy 0", "copy 0", "copy 1", sent=3)
        self.says(desk, "words", "have 0; have 0; have 1")
        self.says(desk, "lose 0", "done")
        self.says(desk, "road", "1 2")
        self.says(desk, "echo 1", "done")
        self.says(desk, "words", "have 0; have 0; have 1")
        self.says(desk, "drop 1", "done")
        self.says(desk, "words", "have 0; have 1")
        self.says(desk, "word 1", "done")
        self.says(desk, "words", "have 0")
        self.says(desk, "word 0", "done")
        self.says(desk, "words", "-")
        self.assertEqual(desk.road.known(), (1, 1, 0))
        self.says(desk, "top", "1")
        self.says(desk, "forget", "done")
        self.says(desk, "top", "-")
        self.says(desk, "lose 1", "done")
        self.says(desk, "lose 0", "done")
        self.says(desk, "road", "-")

    def test_a_top_of_0(self):
        desk = desk_behind("come 0", sent=1)
        self.says(desk, "top", "0")
        self.says(desk, "words", "have 0")
        self.says(desk, "road", "-")

    def test_usable(self):
        desk = desk_behind(sent=2)
        self.says(desk, "usable " + written(head_at(2)), "0 1")
        self.says(desk, "usable 12.81.5", "0")
        self.says(desk, "usable 0.0.0", "-")
        self.says(desk_behind("come 0", "word 0", sent=1), "usable " + written(head_at(1)), "0 1")
        self.says(desk_behind(text=NO_FORMS), "usable 3", "-")

    def test_why(self):
        desk = Desk(TEXT)
        self.says(desk, "why 0 1.2.3", "shared")
        desk = desk_behind(sent=3)
        head = written(head_at(3))
        self.says(desk, "why 0 " + head, "may")
        self.says(desk, "why 1 " + head, "may")
        self.says(desk, "why 2 " + head, "count")
        self.says(desk, "why 1 13.101.3", "doubt 1 time 100")
        self.says(desk, "why 1 14.120.3", "doubt 1 serial 13")
        self.says(desk, "why 1 13.100.9", "doubt 1 mood 3")
        desk = Desk(TEXT.replace("road 1 4 2 0", "road 1 4 2 3"))
        self.says(desk, "why 0 1.2.3", "anew")

    def test_the_more_of_a_doubt_is_that_of_the_former(self):
        text = NO_FORMS.replace("wide 2", "wide 9") + "\nform 9 3 ="
        desk = desk_behind("press 1", "press 2", "press 2", "press 2", text=text)
        self.says(desk, "why 0 2", "doubt 4 a 1")
        self.says(desk, "why 0 1", "doubt 1 a 2")
        desk = desk_behind("press 5", "press 6", text=text)
        self.says(desk, "why 0 6", "doubt 2 a 5")

    def test_why_and_usable_change_nothing(self):
        desk = desk_behind("copy 0", "echo 0", sent=3)
        before = state(desk)
        for line in ("why 0 1.2.3", "why 2 13.100.3", "usable 1.2.3", "usable 13.100.3", "road", "words", "top"):
            self.assertEqual(desk.say(line), desk.say(line))
            self.assertEqual(state(desk), before)

    def test_why_and_usable_ask_nothing_of_how_many_numbers_there_are(self):
        text = NO_FORMS.replace("wide 2", "wide 1") + "\nform 1 1 ="
        desk = desk_behind("press 5", "press 5", text=text)
        self.says(desk, "why 0 5", "may")
        self.says(desk, "usable 5", "0")
        with self.assertRaises(NoMore):
            desk.say("press 5")

    def test_answers_are_texts(self):
        desk = Desk(TEXT)
        for line in (press_at(0), "road", "copy 0", "words", "top", "usable 1.2.3", "why 0 1.2.3", "echo 0", "forget"):
            self.assertIs(type(desk.say(line)), str)

    def test_two_desks_are_each_by_itself(self):
        first, second = Desk(TEXT), Desk(TEXT)
        first.say(press_at(0))
        self.says(second, "road", "-")


class Refused(unittest.TestCase):
    def refused(self, error, desk, line):
        before = state(desk)
        with self.assertRaises(error, msg=repr(line)[:200]) as caught:
            desk.say(line)
        self.assertIs(type(caught.exception), error, repr(line)[:200])
        self.assertEqual(state(desk), before)

    def test_no_text_of_a_pact(self):
        for thing in OTHERS + (TEXT.encode(), [TEXT], PACT):
            with self.assertRaises(NoText) as caught:
                Desk(thing)
            self.assertIs(caught.exception.row, None)
        for text, row in (("", 0), (TEXT + "\n", 9), (TEXT.replace("wide 5", "wide 41"), 4), ("field a 4 still", 1)):
            with self.assertRaises(NoText) as caught:
                Desk(text)
            self.assertIs(type(caught.exception), NoText)
            self.assertEqual(caught.exception.row, row)

    def lines(self):
        head = written(head_at(3))
        return ["forget", "road", "words", "top", "press " + head, "usable " + head, "why 0 " + head] + [
            word + " 0" for word in PLACED]

    def test_things_of_other_kinds(self):
        desk = desk_behind("copy 0", sent=3)
        for thing in OTHERS + (b"top", ["top"], ("top",), ("come", 0), ["come", "0"], ("forget",)):
            self.refused(NoLine, desk, thing)

    def test_not_so_written(self):
        desk = desk_behind("copy 0", sent=3)
        for line in self.lines():
            for other in (" " + line, line + " ", line.upper(), line.capitalize(), line + "\n", "\n" + line, line + "\t",
                          line + " 0", line + " x", line.replace(" ", "  ", 1) + "  ", "0 " + line, line + ";", line + "."):
                self.refused(NoLine, desk, other)
            if " " in line:
                for other in (line.replace(" ", "  "), line.replace(" ", "\t"), line.replace(" ", ""), line.split(" ")[0],
                              line.split(" ")[0] + " ", line.replace(" ", "", 1), line.replace(" ", ",")):
                    self.refused(NoLine, desk, other)
        for line in ("", " ", "-", "done", "read 0", "have 0", "anew", "roads", "word", "letters", "heads", "known", "kept",
                     "say top", "forget all", "top 0", "words 0", "road 0", "why", "why 0", "usable", "press", "0"):
            self.refused(NoLine, desk, line)

    def test_numbers_not_so_written(self):
        desk = desk_behind("copy 0", sent=3)
        for number in ("-1", "00", "01", "+0", "x", "", "0.0", "1e0", "\u0660", "-0", "0x0", "0" * 16, "1" + "0" * 15, "None"):
            for word in PLACED:
                self.refused(NoLine, desk, f"{word} {number}")
            self.refused(NoLine, desk, f"why {number} " + written(head_at(3)))

    def test_heads_that_are_none(self):
        desk = desk_behind("copy 0", sent=3)
        for head in ("1", "1.2", "1.2.3.4", "256.2.3", "1.256.3", "1.2.16", "01.2.3", "1.2.", "1..3", "-1.2.3", "1,2,3", "",
                     "x.2.3", "1.2.3.", "(1,2,3)", "1.2.3\n", "1." + "1" * 16 + ".3"):
            for line in ("press ", "usable ", "why 0 "):
                self.refused(NoLine, desk, line + head)

    def test_forms_that_arent_there(self):
        desk = desk_behind("copy 0", sent=3)
        for at in (3, 4, 12, 10 ** 14):
            self.refused(NoLine, desk, f"why {at} " + written(head_at(3)))
        self.refused(NoLine, Desk(NO_FORMS), "why 0 3")

    def test_as_the_road_refuses(self):
        desk = desk_behind("copy 0", sent=3)
        for number in (3, 4, 10 ** 14, 10 ** 15 - 1):
            for word in ("come", "copy", "lose"):
                self.refused(NoPlace, desk, f"{word} {number}")
        for number in (1, 2, 10 ** 15 - 1):
            for word in ("word", "echo", "drop"):
                self.refused(NoPlace, desk, f"{word} {number}")
        desk = desk_behind("copy 3", sent=9)
        self.refused(Beyond, desk, "come 0")
        self.refused(Beyond, desk, "copy 0")
        desk.say("copy 1")
        self.refused(Beyond, desk, "come 8")
        self.refused(Beyond, desk, "copy 7")
        self.assertEqual(desk.say("copy 6"), "read 6 16.160.3")

    def test_no_more(self):
        desk = desk_behind(text=NO_FORMS)
        for value in range(4):
            desk.say(f"press {value}")
        self.refused(NoMore, desk, "press 3")
        self.refused(NoLine, desk, "press 16")


if __name__ == "__main__":
    unittest.main()
