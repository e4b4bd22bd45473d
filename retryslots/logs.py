"""Logs of an outage: how many attempts were made in its slots, and the starts that explain them."""

from retryslots.checks import MOST_CLIENTS, are_slots, are_two_integers, check_bound, check_starts
from retryslots.errors import InvalidBound, InvalidLog, LimitExceeded
from retryslots.explaining import Explaining
from retryslots.offsets import attempts_before
from retryslots.wholes import is_integer

_MOST_ENTRIES = 500
_MOST_ATTEMPTS = 60
_MOST_EXPLAINING = 3


def expected_log(rule, window, starts):
    """Return the log of clients with these starts."""
    _check_window(window)
    check_starts(starts, 0)
    return _sorted_log([(slot, 1) for start in starts for slot in _slots_in(rule, window, start)])


def infer_starts(rule, window, log):
    """Return the starts in a window that explain a log, with their numbers of clients, or the first clash."""
    _check_window(window)
    _check_log(log, window)
    first, after = window
    # One more attempt than the log has entries is in a slot without one.
    offsets = rule.offsets_between(0, min(attempts_before(rule, after - first), len(log) + 1))
    logged = {slot: count for slot, count in log}
    caused = {}
    clash = after
    starts = []
    for slot, count in [*log, (after, 0)]:
        if clash < slot:
            return ("clash", clash, caused[clash], 0)
        expected = caused.get(slot, 0)
        if count < expected:
            return ("clash", slot, expected, count)
        if count > expected:
            starts.append((slot, count - expected))
            slots = _up_to_unlogged([slot + offset for offset in offsets if slot + offset < after], logged)
            for other in slots:
                caused[other] = caused.get(other, 0) + count - expected
            if slots[-1] not in logged:
                clash = min(clash, slots[-1])
    return ("starts", starts)


def remaining_log(rule, window, log, starts):
    """Return the log without the attempts of clients with these starts, or the first clash."""
    _check_window(window)
    _check_log(log, window)
    recorded = {slot: count for slot, count in log}
    for slot, count in expected_log(rule, window, starts):
        if recorded.get(slot, 0) < count:
            return ("clash", slot, count, recorded.get(slot, 0))
        recorded[slot] = recorded[slot] - count
    return ("log", [(slot, recorded[slot]) for slot, _ in log if recorded[slot] > 0])


def joined_logs(window, one, other):
    """Return the sum of two logs of a window."""
    _check_window(window)
    _check_log(one, window)
    _check_log(other, window)
    return _sorted_log([*one, *other])


def is_explanation(rule, window, log, value):
    """Tell whether a value is a list of starts that explains a log."""
    _check_window(window)
    _check_log(log, window)
    if not _are_ascending(value):
        return False
    try:
        idle = [start for start in value if not _slots_in(rule, window, start)]
        return not idle and expected_log(rule, window, value) == log
    except LimitExceeded:
        # A log never has so many slots.
        return False


def explanations(rule, window, log, earliest, most):
    """Return the sorted list of the explanations of a log by a number of clients from an earliest start on."""
    _check_window(window)
    _check_log(log, window)
    check_bound("earliest", earliest, None, window[0])
    check_bound("most", most, 0, _MOST_EXPLAINING)
    many = attempts_before(rule, window[1] - earliest)
    if many > _MOST_ATTEMPTS:
        raise LimitExceeded(_MOST_ATTEMPTS)
    return Explaining(rule.offsets_between(0, many), window, earliest, most).explanations(log)


def _check_window(window):
    """Raise the error of a window, unless it is a tuple of two integers, the first of which is below the second."""
    if not are_slots(window):
        raise InvalidBound("window")


def _check_log(log, window):
    """Raise the error of a log, unless it is one of a window."""
    if not isinstance(log, list) or len(log) > _MOST_ENTRIES:
        raise InvalidLog(-1)
    least = window[0]
    for at, entry in enumerate(log):
        if not are_two_integers(entry) or entry[1] < 1 or not least <= entry[0] < window[1]:
            raise InvalidLog(at)
        least = entry[0] + 1


def _slots_in(rule, window, start):
    """Return the ascending list of the slots in a window in which a client makes attempts."""
    first = attempts_before(rule, window[0] - start)
    after = attempts_before(rule, window[1] - start)
    if after - first > _MOST_ENTRIES:
        raise LimitExceeded(_MOST_ENTRIES)
    return [start + offset for offset in rule.offsets_between(first, after)]


def _sorted_log(entries):
    """Return the log of tuples (slot, count) in any order, with the counts of equal slots added."""
    counts = {}
    for slot, count in entries:
        counts[slot] = counts.get(slot, 0) + count
    if len(counts) > _MOST_ENTRIES:
        raise LimitExceeded(_MOST_ENTRIES)
    return [(slot, counts[slot]) for slot in sorted(counts)]


def _up_to_unlogged(slots, logged):
    """Return the beginning of a list of slots up to the first one that is not logged."""
    for at, slot in enumerate(slots):
        if slot not in logged:
            return slots[:at + 1]
    return slots


def _are_ascending(value):
    """Tell whether a value is an ascending list of so many starts as there may be clients."""
    if not isinstance(value, list) or len(value) > MOST_CLIENTS:
        return False
    return all([is_integer(start) for start in value]) and value == sorted(value)
