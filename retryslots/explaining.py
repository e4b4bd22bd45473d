"""The search for the lists of starts that explain a log."""

from retryslots.errors import LimitExceeded

_MOST_FOUND = 1000


class Explaining:
    """The explanations of a log by at most so many clients, with these offsets and starts from an earliest one on."""

    def __init__(self, offsets, window, earliest, most):
        self._offsets = offsets
        self._window = window
        self._earliest = earliest
        self._most = most
        self._slots = {}
        self._found = []

    def explanations(self, log):
        """Return the sorted list of all explanations."""
        self._explain({slot: count for slot, count in log}, [], (self._window[0], self._earliest))
        return sorted(self._found)

    def _explain(self, rest, starts, last):
        """Find the explanations that have these starts, up to a last one, and further ones for the rest of the log."""
        if not rest:
            self._keep(starts)
        elif max(rest.values()) <= self._most - len(starts):
            slot = min(rest)
            for start in [slot - offset for offset in self._offsets if slot - offset >= self._earliest]:
                # Starts for the same slot are found in ascending order, so that no list is found twice.
                if (slot, start) >= last:
                    left = _without(rest, self._slots_of(start))
                    if left is not None:
                        self._explain(left, [*starts, start], (slot, start))

    def _keep(self, starts):
        """Add an explanation to those that have been found."""
        if len(self._found) == _MOST_FOUND:
            raise LimitExceeded(_MOST_FOUND)
        self._found.append(sorted(starts))

    def _slots_of(self, start):
        """Return the slots in the window in which a client with a start makes attempts."""
        if start not in self._slots:
            slots = [start + offset for offset in self._offsets]
            self._slots[start] = [slot for slot in slots if self._window[0] <= slot < self._window[1]]
        return self._slots[start]


def _without(rest, slots):
    """Return what is left of a rest of a log without an attempt in each of some slots, or None if one is not in it."""
    if not all([slot in rest for slot in slots]):
        return None
    left = dict(rest)
    for slot in slots:
        left[slot] = left[slot] - 1
        if left[slot] == 0:
            del left[slot]
    return left
