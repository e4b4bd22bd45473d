"""Rules: the gaps between the attempts of a client."""

from retryslots.checks import are_gaps
from retryslots.errors import InvalidAttempt, InvalidRule, InvalidSlot, LimitExceeded
from retryslots.offsets import sums
from retryslots.wholes import is_integer

_MOST_GAPS = 20
_GREATEST_FACTOR = 1000
# Growing gaps gain digits with every attempt, so there is a last one that is answered.
LAST_GROWING = 1000


class Rule:
    """Gaps and a tail that says which gaps follow the listed ones."""

    def __init__(self, gaps, tail):
        if not are_gaps(gaps, _MOST_GAPS):
            raise InvalidRule("gaps")
        if not _is_tail(tail, len(gaps)):
            raise InvalidRule("tail")
        self._gaps = list(gaps)
        self._tail = tuple(tail)
        self._offsets = sums(self._gaps)

    def __eq__(self, other):
        return isinstance(other, Rule) and self._gaps == other._gaps and self._tail == other._tail

    def gaps(self):
        """Return the list of the listed gaps."""
        return list(self._gaps)

    def tail(self):
        """Return the tail."""
        return self._tail

    def attempts(self):
        """Return the number of attempts, or None if they do not end."""
        if self._tail[0] == "end":
            return len(self._offsets)
        return None

    def gap(self, attempt):
        """Return the gap behind an attempt."""
        self._check_attempt(attempt)
        if attempt + 1 == self.attempts():
            raise InvalidAttempt(attempt)
        if attempt < len(self._gaps):
            return self._gaps[attempt]
        further = attempt - len(self._gaps)
        if self._tail[0] == "times":
            return self._gaps[-1] * _power(self._tail[1], further + 1)
        return self._gaps[self.first_repeating() + further % self._tail[1]]

    def offset(self, attempt):
        """Return the sum of all gaps before an attempt."""
        self._check_attempt(attempt)
        return self._offset_of(attempt)

    def first_from(self, distance):
        """Return the first attempt whose offset is at least the distance, or None."""
        if not is_integer(distance):
            raise InvalidSlot(distance)
        if distance <= self._offsets[-1]:
            return _first_at_least(self._offsets, distance)
        if self._tail[0] == "end":
            return None
        if self._tail[0] == "times":
            return self._first_growing(distance)
        return self._first_repeated(distance)

    def attempt_at(self, distance):
        """Return the attempt whose offset is the distance, or None."""
        attempt = self.first_from(distance)
        if attempt is None or self._offset_of(attempt) != distance:
            return None
        return attempt

    def period(self):
        """Return the sum of the gaps that repeat, or None if none do."""
        if self._tail[0] != "repeat":
            return None
        return self._offsets[-1] - self._offsets[self.first_repeating()]

    def least_gap(self):
        """Return the least gap, or None for a rule with one attempt."""
        return min(self._gaps, default=None)

    def first_repeating(self):
        """Return the first attempt behind which the gaps repeat, or None if none do."""
        if self._tail[0] != "repeat":
            return None
        return len(self._gaps) - self._tail[1]

    def offsets_between(self, first, after):
        """Return the offsets of the attempts from one on and before another one, also of far ones with growing gaps."""
        return [self._offset_of(attempt) for attempt in range(first, after)]

    def _check_attempt(self, attempt):
        if not is_integer(attempt) or attempt < 0:
            raise InvalidAttempt(attempt)
        if self._tail[0] == "end" and attempt >= len(self._offsets):
            raise InvalidAttempt(attempt)
        if self._tail[0] == "times" and attempt > LAST_GROWING:
            raise LimitExceeded(LAST_GROWING)

    def _offset_of(self, attempt):
        """Return the offset of an attempt of the rule, without the limit of growing gaps."""
        if attempt < len(self._offsets):
            return self._offsets[attempt]
        further = attempt - len(self._gaps)
        if self._tail[0] == "times":
            # The further gaps are a geometric series.
            factor = self._tail[1]
            return self._offsets[-1] + self._gaps[-1] * factor * (_power(factor, further) - 1) // (factor - 1)
        periods, rest = divmod(further, self._tail[1])
        return self._offsets[self.first_repeating() + rest] + (periods + 1) * self.period()

    def _first_growing(self, distance):
        """Return the first attempt from a distance on that lies behind the listed gaps, which grow."""
        attempt = len(self._gaps) + self._surely_short(distance - self._offsets[-1])
        offset = self._offset_of(attempt)
        gap = self._gaps[-1] * _power(self._tail[1], attempt - len(self._gaps))
        while offset < distance:
            gap = gap * self._tail[1]
            offset = offset + gap
            attempt = attempt + 1
        return attempt

    def _surely_short(self, way):
        """Return a number of further gaps that are together shorter than a way, not much below the greatest one."""
        # Together, k further gaps are below the last listed one times twice the k-th power of the factor.
        bits = way.bit_length() - self._gaps[-1].bit_length() - 2
        return max(0, bits // (self._tail[1] - 1).bit_length())

    def _first_repeated(self, distance):
        """Return the first attempt from a distance on that lies behind the listed gaps, which repeat."""
        first = self.first_repeating()
        periods, rest = divmod(distance - self._offsets[first], self.period())
        within = _first_at_least(self._offsets, self._offsets[first] + rest)
        return within + periods * self._tail[1]


def _is_tail(value, many):
    """Tell whether a value is a tail behind so many gaps."""
    if not isinstance(value, tuple) or len(value) not in (1, 2):
        return False
    # An object of another kind may claim to be equal to a word.
    if not isinstance(value[0], str):
        return False
    if len(value) == 1:
        return value[0] == "end"
    if not is_integer(value[1]):
        return False
    if value[0] == "times":
        return many > 0 and 2 <= value[1] <= _GREATEST_FACTOR
    return value[0] == "repeat" and 1 <= value[1] <= many


def _first_at_least(offsets, distance):
    """Return the first position of ascending offsets whose offset is at least a distance."""
    position = 0
    while offsets[position] < distance:
        position = position + 1
    return position


def _power(base, exponent):
    """Return a power, by squaring."""
    result = 1
    while exponent > 0:
        if exponent & 1 == 1:
            result = result * base
        base = base * base
        exponent = exponent >> 1
    return result
