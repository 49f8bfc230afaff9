"""All errors of the package.

An error keeps the very objects that it is created with, and no message is made of them here:
Python refuses to write out an integer of very many digits.
"""


class FrankError(ValueError):
    """The base of all errors of the package."""


class BadAnswers(FrankError):
    """These are not answers of a menu."""

    def __init__(self, given):
        self.given = given


class BadBatch(FrankError):
    """This is not a batch of edits."""


class BadBelief(FrankError):
    """This is not a belief for the answers that are meant."""

    def __init__(self, given):
        self.given = given


class BadMark(FrankError):
    """This is not a mark."""

    def __init__(self, given):
        self.given = given


class BadMenu(FrankError):
    """This is not a menu, for the reason that menu_error tells."""

    def __init__(self, error):
        self.error = error


class BadNumber(FrankError):
    """This is not a number that marks are multiplied by."""

    def __init__(self, given):
        self.given = given


class BadRow(FrankError):
    """This is not a row with the number of marks that is meant."""

    def __init__(self, given):
        self.given = given


class BadText(FrankError):
    """This is not the text of what was asked for."""

    def __init__(self, given):
        self.given = given


class Busy(FrankError):
    """A batch is being done on the bench."""


class LastWord(FrankError):
    """The only word of a menu is not dropped."""


class NoAnswer(FrankError):
    """This is not an answer of the menu."""

    def __init__(self, given):
        self.given = given


class NoCell(FrankError):
    """The word is best at no belief."""

    def __init__(self, word):
        self.word = word


class NotFrank(FrankError):
    """The word is nowhere the only best one: the weights shut it out."""

    def __init__(self, word, weights):
        self.word = word
        self.weights = weights


class NothingToUndo(FrankError):
    """No edit stands."""


class NoVersion(FrankError):
    """This is not a version of the bench."""

    def __init__(self, given):
        self.given = given


class NoWord(FrankError):
    """This is not a word."""

    def __init__(self, given):
        self.given = given


class Rejected(FrankError):
    """The edit with this index in the batch cannot be done."""

    def __init__(self, index):
        self.index = index


class TooFew(FrankError):
    """The menu has too few rows."""


class TooGreat(FrankError):
    """A mark would be beyond the greatest or the least one."""


class TooMany(FrankError):
    """There are, or would be, more rows than the limit."""

    def __init__(self, limit):
        self.limit = limit


class TooManyEdits(FrankError):
    """As many edits stand as may."""


class Unlike(FrankError):
    """The rows have unlike numbers of marks."""
