"""What the program refuses: one class for each refusal, all straight under HeadError."""


class HeadError(ValueError):
    """Whatever this program refuses."""


class NoHead(HeadError):
    """A thing that is no head of the shape."""


class NoLetter(HeadError):
    """A thing that is no letter of the pact."""


class NoWord(HeadError):
    """A thing that is no word that a presser hears."""


class NoMore(HeadError):
    """The numbers that a letter has room for are used up."""


class NoDeed(HeadError):
    """A thing that is no deed of a road."""


class NoPlace(HeadError):
    """A place at which nothing is on the way."""


class Beyond(HeadError):
    """A letter that may not come any more, or not yet."""


class NoStream(HeadError):
    """A thing that is no number of a stream."""


class NoLine(HeadError):
    """A thing that is no line that a desk answers."""


class NoText(HeadError):
    """A thing that writes no pact or no head; row tells where, None where no row can."""

    def __init__(self, row):
        HeadError.__init__(self, "not so written" if row is None else f"not so written at row {row}")
        self.row = row
