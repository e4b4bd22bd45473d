"""Lines of words and numbers, read one word after another."""

from retryslots.errors import InvalidText

_MOST_DIGITS = 30


def lines_of(text):
    """Return the lines of a text."""
    if not isinstance(text, str):
        raise InvalidText(-1, -1)
    return text.split("\n")


def check_no_line(lines, number):
    """Raise the error of the first line that is one too many, if there is a line with this number."""
    if len(lines) > number:
        raise InvalidText(number, 0)


class Line:
    """A line of a text, which must exist, with the position of the next word to read."""

    def __init__(self, lines, number):
        self._number = number
        self._at = 0
        if number >= len(lines):
            self.refuse()
        # An empty line has no words, and not an empty one.
        self._words = lines[number].split(" ") if lines[number] else []

    def refuse(self):
        """Raise the error of the next word."""
        raise InvalidText(self._number, self._at)

    def one_of(self, words):
        """Read the next word, which must be one of some words, and return it."""
        if self._at == len(self._words) or self._words[self._at] not in words:
            self.refuse()
        self._at = self._at + 1
        return self._words[self._at - 1]

    def whole(self):
        """Read the next word, which must be a number, and return the number."""
        if self._at == len(self._words) or not _is_number(self._words[self._at]):
            self.refuse()
        self._at = self._at + 1
        return int(self._words[self._at - 1])

    def wholes(self):
        """Read the numbers that come next, and return their list."""
        found = []
        while self._at < len(self._words) and _is_number(self._words[self._at]):
            found.append(self.whole())
        return found

    def pairs(self, mark):
        """Read the words that come next and are two numbers with a mark between, and return their list."""
        found = []
        while self._at < len(self._words) and _is_pair(self._words[self._at], mark):
            first, _, second = self._words[self._at].partition(mark)
            found.append((int(first), int(second)))
            self._at = self._at + 1
        return found

    def finish(self):
        """Raise the error of the next word, if there is one."""
        if self._at < len(self._words):
            self.refuse()


def _is_pair(word, mark):
    """Tell whether a word is two numbers with a mark between."""
    first, found, second = word.partition(mark)
    return found == mark and _is_number(first) and _is_number(second)


def _is_number(word):
    """Tell whether a word is a number as it is written."""
    digits = word.removeprefix("-")
    if not 1 <= len(digits) <= _MOST_DIGITS or not all([digit in "0123456789" for digit in digits]):
        return False
    return digits[0] != "0" or word == "0"
