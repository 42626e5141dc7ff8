"""The errors of the package: each keeps what it was made with, whatever that is."""


class FlowError(ValueError):
    """What all errors of the package stand under."""


class InvalidFraction(FlowError):
    """A value that is no fraction where one is asked for."""

    def __init__(self, given):
        self.given = given


class InvalidNumber(FlowError):
    """A value that is no whole number of the told range."""

    def __init__(self, given):
        self.given = given


class InvalidLetters(FlowError):
    """A value that is neither 2 nor 3 where it has to tell how many letters are let."""

    def __init__(self, given):
        self.given = given


class InvalidLetter(FlowError):
    """A value that is neither of the letters 0 and 1."""

    def __init__(self, given):
        self.given = given


class InvalidLength(FlowError):
    """A value that is no length of the told range."""

    def __init__(self, given):
        self.given = given


class InvalidWord(FlowError):
    """A value that is no word, or none that is let here."""

    def __init__(self, given):
        self.given = given


class InvalidSum(FlowError):
    """A value that is no sum, or none that is let here."""

    def __init__(self, given):
        self.given = given


class InvalidTables(FlowError):
    """A value that is no tables, or too few of them."""

    def __init__(self, given):
        self.given = given


class InvalidStep(FlowError):
    """A value that is no step, or none that is let here."""

    def __init__(self, given):
        self.given = given


class InvalidParts(FlowError):
    """A value that is no parts, or none that are let here."""

    def __init__(self, given):
        self.given = given


class InvalidMeaning(FlowError):
    """A value that is no meaning of the letter 2."""

    def __init__(self, given):
        self.given = given


class InvalidRelations(FlowError):
    """A value that is no relations, or none that are let here."""

    def __init__(self, given):
        self.given = given


class InvalidIndex(FlowError):
    """A value that is no index of a wish."""

    def __init__(self, given):
        self.given = given


class InvalidName(FlowError):
    """A value that cannot be a name."""

    def __init__(self, given):
        self.given = given


class InvalidWish(FlowError):
    """A value that is no wish."""

    def __init__(self, given):
        self.given = given


class InvalidPhrase(FlowError):
    """A line that a console does not know."""

    def __init__(self, given):
        self.given = given


class UnknownName(FlowError):
    """A value that is no name in the workshop."""

    def __init__(self, given):
        self.given = given


class NotAWorkshop(FlowError):
    """A value that is no workshop."""

    def __init__(self, given):
        self.given = given


class InUse(FlowError):
    """A name that a wish names; the index is that of the first such wish."""

    def __init__(self, index):
        self.index = index


class Broken(FlowError):
    """A change that breaks a wish; the index is that of the first such wish."""

    def __init__(self, index):
        self.index = index


class NotLeast(FlowError):
    """A word that is not least."""


class NotBrackets(FlowError):
    """A sum that is no sum of brackets."""


class NotClosed(FlowError):
    """Tables of which one is not closed."""


class NotRight(FlowError):
    """A step whose order is too low."""


class NotStaying(FlowError):
    """A step that does not stay at a length."""


class NothingToUndo(FlowError):
    """A workshop without a change that can be taken back."""
