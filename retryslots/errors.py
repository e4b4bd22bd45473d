"""The errors of the package, each constructed from its fields."""

# A field may be any object, so no class makes a message of it: writing an
# object as a text may fail, also for a very long integer.


class RetryError(ArithmeticError):
    """The base class of all errors of the package."""


class InvalidRule(RetryError):
    """A part of a rule is invalid."""

    def __init__(self, part):
        self.part = part


class InvalidAttempt(RetryError):
    """An argument is not an attempt of the rule, or the rule has no gap behind it."""

    def __init__(self, attempt):
        self.attempt = attempt


class InvalidSlot(RetryError):
    """An argument is not a slot or a distance that the call takes."""

    def __init__(self, slot):
        self.slot = slot


class InvalidScene(RetryError):
    """A part of a scene is invalid, or an argument is not the object that is asked for."""

    def __init__(self, part, at):
        self.part = part
        self.at = at


class InvalidClient(RetryError):
    """An argument is not a client of the scene."""

    def __init__(self, client):
        self.client = client


class InvalidLog(RetryError):
    """A log is invalid, at the index of an element or as a whole."""

    def __init__(self, at):
        self.at = at


class InvalidBound(RetryError):
    """A bound, a count or another number of a call is invalid."""

    def __init__(self, part):
        self.part = part


class InvalidReason(RetryError):
    """A reason is invalid, at its index."""

    def __init__(self, at):
        self.at = at


class LimitExceeded(RetryError):
    """More is asked for than a limit admits."""

    def __init__(self, limit):
        self.limit = limit


class InvalidText(RetryError):
    """A text is not written as stated, at a line and a word of it."""

    def __init__(self, line, word):
        self.line = line
        self.word = word
