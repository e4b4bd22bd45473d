"""Checks of arguments that several modules take."""

from retryslots.errors import InvalidClient, InvalidSlot
from retryslots.wholes import is_integer


def check_slot(slot):
    """Raise the error of a slot, unless it is an integer."""
    if not is_integer(slot):
        raise InvalidSlot(slot)


def check_client(client, many):
    """Raise the error of a client, unless it is one of so many clients."""
    if not is_integer(client) or not 0 <= client < many:
        raise InvalidClient(client)
