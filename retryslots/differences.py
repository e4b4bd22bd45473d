"""The differences between the offsets of a rule, and the distances at which two clients share slots."""

from retryslots.checks import check_bound
from retryslots.errors import InvalidAttempt, InvalidSlot, LimitExceeded
from retryslots.offsets import listed_offsets, offsets_beyond, single_offsets
from retryslots.wholes import is_integer


def is_spread(rule):
    """Tell whether no two different pairs of attempts have the same difference."""
    return first_repetition(rule) is None


def first_repetition(rule):
    """Return the least repetition among as few first attempts as have one, or None."""
    offsets = _telling_offsets(rule)
    many = _fewest_repeating(offsets)
    if many is None:
        return None
    groups = _pairs_by_difference(offsets[:many])
    return min([(pairs[0], pairs[1]) for pairs in groups.values() if len(pairs) > 1])


def is_repetition(rule, value):
    """Tell whether a value is a tuple of two different pairs of attempts with the same difference."""
    if not isinstance(value, tuple) or len(value) != 2:
        return False
    one, other = value
    if not _is_pair(rule, one) or not _is_pair(rule, other):
        return False
    return one[0] != other[0] and _difference(rule, one) == _difference(rule, other)


def shared_attempts(rule, distance):
    """Return the attempts in which two clients at a distance share a slot: the single and the repeating ones."""
    _check_distance(distance)
    pairs = sorted([pair for difference, pair in _reaching(rule, distance) if difference == distance])
    first = rule.first_repeating()
    if first is None:
        return pairs, []
    return [pair for pair in pairs if pair[1] < first], [pair for pair in pairs if pair[1] >= first]


def most_shared(rule):
    """Return the greatest number of slots that two clients can share, and the least distance for it, or None."""
    if rule.first_repeating() is not None:
        return None
    groups = _pairs_by_difference(_telling_offsets(rule))
    most = max([len(pairs) for pairs in groups.values()], default=0)
    return most, min([difference for difference in groups if len(groups[difference]) == most], default=None)


def next_distance(rule, distance):
    """Return the least distance from one on at which two clients share a slot, and their attempts, or None."""
    _check_distance(distance)
    return min(_reaching(rule, distance), default=None)


def count_distances(rule, limit):
    """Return the number of distances up to a limit at which two clients share a slot."""
    check_bound("limit", limit, 0, None)
    if rule.first_repeating() is not None:
        return _count_repeating(rule, limit)
    offsets = _telling_offsets(rule)
    count = len([difference for difference in _pairs_by_difference(offsets) if difference <= limit])
    if rule.tail()[0] == "times":
        return count + _count_growing(rule, limit, len(offsets))
    return count


def _check_distance(distance):
    """Raise the error of a distance, unless it is an integer from 1 on."""
    if not is_integer(distance) or distance < 1:
        raise InvalidSlot(distance)


def _is_pair(rule, value):
    """Tell whether a value is a pair of attempts of a rule."""
    if not isinstance(value, tuple) or len(value) != 2:
        return False
    return _is_attempt(rule, value[0]) and _is_attempt(rule, value[1]) and value[0] < value[1]


def _is_attempt(rule, value):
    """Tell whether a value is an attempt of a rule up to the limit of growing gaps."""
    try:
        rule.offset(value)
    except (InvalidAttempt, LimitExceeded):
        return False
    return True


def _difference(rule, pair):
    """Return the difference of a pair."""
    return rule.offset(pair[1]) - rule.offset(pair[0])


def _reaching(rule, distance):
    """Return the least differences from a distance on, and their attempts, for each attempt of the later client.

    Further attempts of the later client have greater differences, or repeat them.
    """
    if rule.first_repeating() is not None:
        return [_reaching_repeated(rule, distance, later) for later in range(len(rule.gaps()))]
    offsets = offsets_beyond(rule, distance)
    found = []
    earlier = 0
    for later, offset in enumerate(offsets):
        while earlier < len(offsets) and offsets[earlier] < offset + distance:
            earlier = earlier + 1
        if earlier < len(offsets):
            found.append((offsets[earlier] - offset, (earlier, later)))
    return found


def _reaching_repeated(rule, distance, later):
    """Return the least difference from a distance on, and its attempts, with one attempt of the later client."""
    earlier = rule.first_from(rule.offset(later) + distance)
    return rule.offset(earlier) - rule.offset(later), (earlier, later)


def _telling_offsets(rule):
    """Return the offsets of the first attempts, so many that their pairs tell which differences are repeated.

    Gaps that repeat have two pairs at the distance of a period, the later one
    ending one attempt behind the listed ones.

    For growing gaps, let s be the offset of the attempt before the last listed
    gap, and j the later attempt of a pair whose difference is also that of a
    pair that ends before j. If the gap before attempt j - 1 is above s, only
    doubled gaps can do this: the gap before j is then as long as the way from
    some listed attempt to attempt j - 1, which holds for every such j or for
    none. So a greater j has neither the first repetition nor more pairs.
    """
    offsets = listed_offsets(rule)
    if rule.first_repeating() is not None:
        return [*offsets, rule.offset(len(offsets))]
    if rule.tail()[0] == "times":
        return offsets_beyond(rule, offsets[-2])
    return offsets


def _fewest_repeating(offsets):
    """Return how many first attempts have a repetition, as few as possible, or None."""
    seen = set()
    for position, offset in enumerate(offsets):
        for earlier in offsets[:position]:
            if offset - earlier in seen:
                return position + 1
            seen.add(offset - earlier)
    return None


def _pairs_by_difference(offsets):
    """Return a dict from each difference to the ascending list of its pairs."""
    groups = {}
    for first in range(len(offsets)):
        for second in range(first + 1, len(offsets)):
            groups.setdefault(offsets[second] - offsets[first], []).append((first, second))
    return groups


def _count_growing(rule, limit, first):
    """Return the number of differences up to a limit that occur from an attempt on, and not before it.

    All telling attempts lie before this one.
    """
    # The last gap is above the limit.
    offsets = offsets_beyond(rule, limit)[:-1]
    count = 0
    low = 0
    for second in range(first, len(offsets)):
        while offsets[second] - offsets[low] > limit:
            low = low + 1
        count = count + second - low
        # The only difference that can have occurred before, as for the telling offsets.
        gap = offsets[second] - offsets[second - 1]
        if rule.attempt_at(offsets[second - 1] - gap) is not None:
            count = count - 1
    return count


def _count_repeating(rule, limit):
    """Return the number of differences up to a limit, of a rule with gaps that repeat."""
    period = rule.period()
    least = _least_by_residue(rule)
    count = sum([(limit - difference) // period + 1 for difference in least.values() if difference <= limit])
    for difference in _pairs_by_difference(single_offsets(rule)):
        if difference <= limit and difference < least.get(difference % period, difference + 1):
            count = count + 1
    return count


def _least_by_residue(rule):
    """Return the least differences to repeating attempts, by their residues modulo the period.

    With such a difference, every greater one with its residue occurs, too.
    """
    first = rule.first_repeating()
    offsets = listed_offsets(rule)
    many = len(offsets) - 1 - first
    least = {}
    for early in range(len(offsets) - 1):
        start = max(first, early + 1)
        for late in range(start, start + many):
            difference = rule.offset(late) - offsets[early]
            residue = difference % rule.period()
            least[residue] = min(difference, least.get(residue, difference))
    return least
