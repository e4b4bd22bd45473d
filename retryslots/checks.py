"""Checks of arguments that several modules take."""

from retryslots.errors import InvalidBound, InvalidClient, InvalidScene, InvalidSlot
from retryslots.wholes import is_integer

_LONGEST_GAP = 10 ** 12
MOST_CLIENTS = 40


def check_slot(slot):
    """Raise the error of a slot, unless it is an integer."""
    if not is_integer(slot):
        raise InvalidSlot(slot)


def check_client(client, many):
    """Raise the error of a client, unless it is one of so many clients."""
    if not is_integer(client) or not 0 <= client < many:
        raise InvalidClient(client)


def check_bound(part, value, low, high):
    """Raise the error of a bound, unless it is an integer from a low one to a high one; None does not limit it."""
    if not is_integer(value):
        raise InvalidBound(part)
    if low is not None and value < low or high is not None and value > high:
        raise InvalidBound(part)


def check_starts(value, fewest):
    """Raise the error of the starts, unless a value is a list of so many integers as there may be clients."""
    if not isinstance(value, list) or not fewest <= len(value) <= MOST_CLIENTS:
        raise InvalidScene("starts", -1)
    for at, start in enumerate(value):
        if not is_integer(start):
            raise InvalidScene("starts", at)


def are_gaps(value, most):
    """Tell whether a value is a list of at most so many gaps."""
    if not isinstance(value, list) or len(value) > most:
        return False
    return all([is_integer(gap) and 1 <= gap <= _LONGEST_GAP for gap in value])


def are_slots(value):
    """Tell whether a value is a tuple of two integers, the first of which is below the second."""
    return are_two_integers(value) and value[0] < value[1]


def are_two_integers(value):
    """Tell whether a value is a tuple of two integers."""
    if not isinstance(value, tuple) or len(value) != 2:
        return False
    return is_integer(value[0]) and is_integer(value[1])
