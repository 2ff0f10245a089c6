"""Pressers, readers and roads told once more, straight from the document's words, keeping all that ever was."""

from shorthead.doubts import doubt
from shorthead.errors import Beyond, NoPlace
from shorthead.forms import opened
from shorthead.letters import letter_size, parted, pressed_letter, whole_letter
from shorthead.shapes import check_of


def greatest(numbers):
    return max(numbers, default=None)


class PlainPresser:
    def __init__(self, pact):
        self.pact = pact
        self.heads = []
        self.words = []

    def heard(self, word):
        self.words.append((len(self.heads), word))

    def known(self):
        anews = [place for place, (_, word) in enumerate(self.words) if word == ("anew",)]
        since = anews[-1] + 1 if anews else 0
        fresh = self.words[anews[-1]][0] if anews else 0
        had = greatest(word[1] for _, word in self.words if word[0] == "have")
        heard_since = [word[1] for _, word in self.words[since:] if word[0] == "have"]
        return (had, greatest(number for number in heard_since if number >= fresh), fresh)

    def sent(self):
        return len(self.heads)

    def formers(self, reach):
        n = len(self.heads)
        return tuple((more, self.heads[n - more]) for more in range(1, reach + 1) if n - more >= 0)

    def why_not(self, head, at):
        shape, _, forms, (skips, gap, late, anew) = self.pact
        reach, count, _ = forms[at]
        n = len(self.heads)
        had, base, fresh = self.known()
        if anew and n in range(0, 401, anew):
            return "anew"
        shared = ([base] if base is not None else []) + ([n - 1 - skips] if n - 1 - skips >= fresh else [])
        if not shared or max(shared) < n - reach:
            return "shared"
        t = max([0, n - 1 - gap] + ([had - late] if had is not None else []))
        if not 2 ** count > n + late - t:
            return "count"
        return doubt(shape, forms[at], head, self.formers(reach))

    def usable(self, head):
        return tuple(at for at in range(len(self.pact[2])) if self.why_not(head, at) is None)

    def press(self, head):
        number = len(self.heads)
        sizes = [(letter_size(self.pact, at), at) for at in self.usable(head)]
        letter = whole_letter(self.pact, number, head)
        if sizes and min(sizes)[0] < len(letter):
            letter = pressed_letter(self.pact, min(sizes)[1], number, head)
        self.heads.append(head)
        return letter


class PlainReader:
    def __init__(self, pact):
        self.pact = pact
        self.forget()

    def forget(self):
        self.highest = None
        self.read_so_far = {}

    def top(self):
        return self.highest

    def kept(self):
        if self.highest is None:
            return {}
        bound = self.highest - self.pact[3][2]
        below = greatest(number for number in self.read_so_far if number < bound)
        return {n: self.read_so_far[n] for n in sorted(self.read_so_far) if n >= bound or n == below}

    def number_of_letter(self, at, rest):
        if at is None:
            return rest
        count = self.pact[2][at][1]
        least = self.highest - self.pact[3][2]
        return next(n for n in range(least, least + 2 ** count) if n % 2 ** count == rest)

    def read(self, letter):
        at, rest, bits, check = parted(self.pact, letter)
        if at is not None and self.highest is None:
            return ("not", "blank")
        n = self.number_of_letter(at, rest)
        if n < 0 or self.highest is not None and n < self.highest - self.pact[3][2]:
            return ("not", "late")
        if n in self.kept():
            return ("twice", n)
        return self.read_number(at, n, bits, check)

    def read_number(self, at, n, bits, check):
        if at is None:
            head = ()
            for _, breadth, _ in self.pact[0][0]:
                head += (int(bits[:breadth], 2),)
                bits = bits[breadth:]
        else:
            form = self.pact[2][at]
            below = greatest(number for number in self.kept() if number < n)
            if below is None or below < n - form[0]:
                self.highest = max(self.highest, n)
                return ("not", "far")
            head = opened(self.pact[0], form, bits, self.kept()[below], n - below)
        if check_of(self.pact[0], n, head) != check:
            return ("not", "check")
        self.read_so_far[n] = head
        self.highest = n if self.highest is None else max(self.highest, n)
        return ("read", n, head)


class PlainRoad:
    """Deeds that are deeds alone; heads that are heads, and never too many."""

    def __init__(self, pact, presser, reader):
        self.pact = pact
        self.presser = presser
        self.reader = reader
        self.row = []
        self.back = []
        self.came = []

    def letters(self):
        return list(self.row)

    def words(self):
        return list(self.back)

    def do(self, deed):
        word, *rest = deed
        if word == "press":
            number = self.presser.sent()
            letter = self.presser.press(rest[0])
            self.row.append((number, letter))
            return ("sent", number, len(letter))
        if word == "forget":
            self.reader.forget()
            return ("done",)
        row = self.row if word in ("come", "copy", "lose") else self.back
        k = rest[0]
        if k >= len(row):
            raise NoPlace("")
        told = ("done",)
        if word in ("come", "copy"):
            told = self.arrive(*row[k])
        if word in ("word", "echo"):
            self.presser.heard(row[k])
        if word not in ("copy", "echo"):
            del row[k]
        return told

    def arrive(self, number, letter):
        _, gap, late, _ = self.pact[3]
        sent_behind = [list(range(number + 1, one + 1)) for one in self.came]
        if any(len(row) > late for row in sent_behind):
            raise Beyond("")
        of_form = parted(self.pact, letter)[0] is not None
        if of_form and self.reader.top() is not None and number > self.reader.top() + gap + 1:
            raise Beyond("")
        told = self.reader.read(letter)
        self.came.append(number)
        self.back.append(("anew",) if told[0] == "not" else ("have", told[1]))
        return told
