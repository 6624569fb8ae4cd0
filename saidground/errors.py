"""The refusals: each is a SaidError, with the fields that the document tells."""


class SaidError(ValueError):
    """Any refusal."""


class NoHand(SaidError):
    """What is none of the hands told, or the same one where another is asked."""


class NoHands(SaidError):
    """What is no rising tuple of two to five hands."""


class NoCard(SaidError):
    """What is no card that the hand has."""


class NoWords(SaidError):
    """What is no rising tuple of words."""


class NoLines(SaidError):
    """What are no lines that the hand could write."""


class NoEntry(SaidError):
    """What is no entry by which a letter is read."""


class NoSlots(SaidError):
    """What are no slots that the writer had."""


class NoBack(SaidError):
    """There is no deed to take back."""


class NoHistory(SaidError):
    """What is no history; wrong is what history_wrong tells of it."""

    def __init__(self, wrong=None):
        self.wrong = wrong


class NoLetter(SaidError):
    """What is no letter that is there, or that can have come; wrong tells why."""

    def __init__(self, wrong=None):
        self.wrong = wrong


class NoView(SaidError):
    """What is no view; wrong is what view_wrong tells of it."""

    def __init__(self, wrong=None):
        self.wrong = wrong


class NoViews(SaidError):
    """What are no views of one history; wrong is what together_wrong tells of them."""

    def __init__(self, wrong=None):
        self.wrong = wrong


class NoSaying(SaidError):
    """What is no saying; wrong is the path to the first part that is none."""

    def __init__(self, wrong=None):
        self.wrong = wrong


class NoDeed(SaidError):
    """What is no deed that can be done; wrong is what history_wrong tells with it."""

    def __init__(self, wrong=None):
        self.wrong = wrong


class NoLetters(SaidError):
    """What are no letters with their grounds; at is the first place that is none."""

    def __init__(self, at=None):
        self.at = at


class NoText(SaidError):
    """What is no history's text; row is the number of the first row that is none."""

    def __init__(self, row=None):
        self.row = row
