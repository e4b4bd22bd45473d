"""Scenes: clients that share one server, and its outages."""

from retryslots.checks import are_slots, check_client, check_slot, check_starts
from retryslots.errors import InvalidScene
from retryslots.rules import Rule
from retryslots.wholes import is_integer

_MOST_OUTAGES = 10


class Scene:
    """A rule, the starts of the clients that use it, outages, and the length of a service."""

    def __init__(self, rule, starts, *, outages=None, length=1):
        if not isinstance(rule, Rule):
            raise InvalidScene("rule", -1)
        check_starts(starts, 1)
        if outages is not None:
            _check_outages(outages)
        if not is_integer(length) or length < 1:
            raise InvalidScene("length", -1)
        self._rule = rule
        self._starts = list(starts)
        self._outages = [(first, after) for first, after in list(outages or [])]
        self._length = length

    def __eq__(self, other):
        return (
            isinstance(other, Scene) and self._rule == other._rule and self._starts == other._starts
            and self._outages == other._outages and self._length == other._length
        )

    def rule(self):
        """Return the rule that all clients use."""
        return Rule(self._rule.gaps(), self._rule.tail())

    def starts(self):
        """Return the list of the starts of the clients."""
        return list(self._starts)

    def outages(self):
        """Return the list of the outages."""
        return list(self._outages)

    def length(self):
        """Return the length of a service."""
        return self._length

    def slot_of(self, client, attempt):
        """Return the slot in which the rule places an attempt of a client."""
        check_client(client, len(self._starts))
        return self._starts[client] + self._rule.offset(attempt)

    def attempt_in(self, client, slot):
        """Return the attempt of a client that the rule places in a slot, or None."""
        check_client(client, len(self._starts))
        check_slot(slot)
        return self._rule.attempt_at(slot - self._starts[client])

    def outage_at(self, slot):
        """Return the index of the outage that contains a slot, or None."""
        check_slot(slot)
        for at, (first, after) in enumerate(self._outages):
            if first <= slot < after:
                return at
        return None


def _check_outages(value):
    """Raise the error of the outages, unless a value is a list of outages, one behind another."""
    if not isinstance(value, list) or len(value) > _MOST_OUTAGES:
        raise InvalidScene("outages", -1)
    for at, outage in enumerate(value):
        if not are_slots(outage) or at > 0 and outage[0] < value[at - 1][1]:
            raise InvalidScene("outages", at)
