"""Short rules with distinct differences, as lists of gaps."""

from itertools import combinations

from retryslots.checks import are_gaps, check_bound
from retryslots.errors import InvalidBound, LimitExceeded
from retryslots.offsets import sums

_MOST_GAPS = 12
_WIDEST_GAP = 2000
_MOST_ATTEMPTS = 7
_GREATEST_TOTAL = 60
_MOST_LISTS = 2000


def is_spread_list(gaps):
    """Tell whether the differences between any two offsets of a gap list are distinct."""
    if not are_gaps(gaps, _MOST_GAPS):
        raise InvalidBound("gaps")
    differences = _differences(gaps)
    return len(set(differences)) == len(differences)


def next_gaps(gaps, most):
    """Return the ascending list of the gaps up to a greatest one with which a list remains spread."""
    _check_spread(gaps)
    _check_room(gaps, 1)
    check_bound("most", most, 1, _WIDEST_GAP)
    ways = _ways_back(gaps)
    taken = {difference: True for difference in _differences(gaps)}
    return [gap for gap in range(1, most + 1) if _fits(gap, ways, taken)]


def extended(gaps, count):
    """Return a list that is extended by so many gaps, each of them the least with which it remains spread."""
    _check_spread(gaps)
    check_bound("count", count, 0, _MOST_GAPS)
    _check_room(gaps, count)
    found = list(gaps)
    for _ in range(count):
        found.append(_least_gap(found))
    return found


def spread_lists(count, total):
    """Return the sorted list of all spread gap lists with so many attempts and this total."""
    check_bound("count", count, 1, _MOST_ATTEMPTS)
    check_bound("total", total, 0, _GREATEST_TOTAL)
    search = Search(count - 1)
    search.extend_by([], [0], {}, total)
    return search.found()


def shortest(count):
    """Return the least total of a spread gap list with so many attempts, and all lists with this total."""
    check_bound("count", count, 1, _MOST_ATTEMPTS)
    total = count * (count - 1) // 2
    lists = spread_lists(count, total)
    while not lists:
        total = total + 1
        lists = spread_lists(count, total)
    return total, lists


class Search:
    """The search for all spread lists with so many gaps, in ascending order."""

    def __init__(self, many):
        self._many = many
        self._found = []

    def found(self):
        """Return the lists that have been found."""
        return self._found

    def extend_by(self, gaps, ways, taken, total):
        """Find all lists that extend a list by gaps with a total, where the list has these ways and differences."""
        many = self._many - len(gaps)
        if many == 0:
            if total == 0:
                self._keep(gaps)
            return
        for gap in _choices(many, total):
            if _fits(gap, ways, taken):
                further = [way + gap for way in ways]
                self.extend_by([*gaps, gap], [0, *further], _with_taken(taken, further), total - gap)

    def _keep(self, gaps):
        """Add a list to those that have been found."""
        if len(self._found) == _MOST_LISTS:
            raise LimitExceeded(_MOST_LISTS)
        self._found.append(gaps)


def _choices(many, total):
    """Return the gaps that may come next, if so many gaps with this total are left."""
    if many == 1:
        return [total] if total > 0 else []
    # The gaps of a spread list are different ones.
    return list(range(1, total - many * (many - 1) // 2 + 1))


def _with_taken(taken, further):
    """Return a dict of differences with further ones."""
    result = dict(taken)
    for difference in further:
        result[difference] = True
    return result


def _check_spread(gaps):
    """Raise the error of the gaps, unless they are a spread list."""
    if not is_spread_list(gaps):
        raise InvalidBound("gaps")


def _check_room(gaps, many):
    """Raise the error of the gaps, unless a list may be extended by so many."""
    if len(gaps) + many > _MOST_GAPS:
        raise InvalidBound("gaps")


def _differences(gaps):
    """Return the differences between any two offsets of a list."""
    offsets = sums(gaps)
    return [later - earlier for earlier, later in combinations(offsets, 2)]


def _ways_back(gaps):
    """Return the ways from the last offset of a list back to each of its offsets."""
    offsets = sums(gaps)
    return [offsets[-1] - offset for offset in offsets]


def _fits(gap, ways, taken):
    """Tell whether a list with these ways back and differences remains spread with a further gap."""
    return not any([way + gap in taken for way in ways])


def _least_gap(gaps):
    """Return the least gap with which a spread list remains spread."""
    ways = _ways_back(gaps)
    taken = {difference: True for difference in _differences(gaps)}
    gap = 1
    while not _fits(gap, ways, taken):
        gap = gap + 1
    return gap
