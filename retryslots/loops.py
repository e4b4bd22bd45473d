"""Clients that block one another, with rules whose gaps repeat."""

from itertools import combinations

from retryslots.checks import check_bound, check_slot, check_starts
from retryslots.errors import InvalidRule, InvalidSlot, LimitExceeded
from retryslots.offsets import repeating_offsets
from retryslots.services import Loop
from retryslots.wholes import is_integer

_MOST_REMOVABLE = 10


def loop_distances(rule):
    """Return the ascending list of the residues of the differences of starts for which two clients meet for ever."""
    _check_repeating(rule)
    residues = _residues(rule, 0)
    return sorted(set([(one - other) % rule.period() for one in residues for other in residues]))


def meets_forever(rule, distance):
    """Tell whether two clients whose starts differ by a distance share infinitely many slots."""
    _check_repeating(rule)
    check_slot(distance)
    return distance % rule.period() in loop_distances(rule)


def blocked_clients(rule, starts):
    """Return the greatest closed set of clients, as tuples of a client and its partners in the attempts that repeat."""
    _check_clients(rule, starts)
    table = _residue_table(rule, starts)
    clients = _greatest_closed(table, list(range(len(starts))))
    return [(client, _partners(table, client, clients)) for client in clients]


def is_closed(rule, starts, value):
    """Tell whether a value is an ascending list of clients that form a closed set."""
    _check_clients(rule, starts)
    if not _are_ascending(value, len(starts)):
        return False
    return _greatest_closed(_residue_table(rule, starts), value) == value


def next_service(rule, starts, slot):
    """Return the slot and the client of the first service from a slot on, or None."""
    _check_clients(rule, starts)
    _check_repeated(rule, starts, slot)
    loop = _filled_loop(rule, starts)
    begin = loop.lone_from(slot)
    if begin is None:
        return None
    return begin, loop.clients_in(begin)[0]


def service_order(rule, starts, slot, length):
    """Return the list of tuples (slot, client) of all services from a slot on, each of so many slots."""
    _check_clients(rule, starts)
    _check_repeated(rule, starts, slot)
    check_bound("length", length, 1, None)
    loop = _filled_loop(rule, starts)
    services = []
    begin = loop.lone_from(slot)
    while begin is not None:
        client = loop.clients_in(begin)[0]
        services.append((begin, client))
        loop.leave(client)
        begin = loop.lone_from(begin + length)
    return services


def fewest_removed(rule, starts):
    """Return the least of the shortest lists of clients without which no set but the empty one is closed."""
    _check_clients(rule, starts)
    if len(starts) > _MOST_REMOVABLE:
        raise LimitExceeded(_MOST_REMOVABLE)
    table = _residue_table(rule, starts)
    blocked = _greatest_closed(table, list(range(len(starts))))
    for many in range(len(blocked)):
        for removed in combinations(blocked, many):
            if not _greatest_closed(table, [client for client in blocked if client not in removed]):
                return list(removed)
    return blocked


def _check_repeating(rule):
    """Raise the error of the tail, unless the gaps of a rule repeat."""
    if rule.first_repeating() is None:
        raise InvalidRule("tail")


def _check_clients(rule, starts):
    """Raise the errors of a rule and of the starts of the clients that use it."""
    _check_repeating(rule)
    check_starts(starts, 1)


def _check_repeated(rule, starts, slot):
    """Raise the error of a slot, unless the attempts of all clients repeat from it on."""
    check_slot(slot)
    if slot < max(starts) + rule.offset(rule.first_repeating()):
        raise InvalidSlot(slot)


def _are_ascending(value, many):
    """Tell whether a value is an ascending list of different clients, out of so many."""
    if not isinstance(value, list):
        return False
    if not all([is_integer(client) and 0 <= client < many for client in value]):
        return False
    return value == sorted(set(value))


def _residues(rule, start):
    """Return the residues of the attempts of a client that repeat, in the order of these attempts."""
    return [(start + offset) % rule.period() for offset in repeating_offsets(rule)]


def _residue_table(rule, starts):
    """Return the list of the residues of each client."""
    return [_residues(rule, start) for start in starts]


def _greatest_closed(table, clients):
    """Return the greatest closed set among some clients, in their order."""
    while True:
        counts = {}
        for client in clients:
            for residue in table[client]:
                counts[residue] = counts.get(residue, 0) + 1
        kept = [client for client in clients if all([counts[residue] > 1 for residue in table[client]])]
        if len(kept) == len(clients):
            return kept
        clients = kept


def _partners(table, client, clients):
    """Return the least other one of some clients that has the same residue, for each attempt of a client."""
    others = [other for other in clients if other != client]
    return tuple([min([other for other in others if residue in table[other]]) for residue in table[client]])


def _filled_loop(rule, starts):
    """Return the loop of clients whose attempts all repeat."""
    loop = Loop(rule)
    for client, start in enumerate(starts):
        loop.enter(client, start)
    return loop
