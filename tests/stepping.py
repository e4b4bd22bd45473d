"""A rule stepped through gap by gap, as the document describes it."""

from itertools import combinations, islice, product


def small_rules():
    """Return the parts of all rules with few short gaps."""
    rules = []
    for many in range(4):
        tails = [("end",)]
        tails += [("times", factor) for factor in (2, 3, 1000) if many > 0]
        tails += [("repeat", repeating) for repeating in range(1, many + 1)]
        rules += [(list(gaps), tail) for gaps in product((1, 2, 5), repeat=many) for tail in tails]
    return rules


def endless_gaps(gaps, tail):
    """Yield the gaps of a rule, one by one."""
    made = list(gaps)
    yield from made
    while tail[0] != "end":
        if tail[0] == "times":
            made.append(made[-1] * tail[1])
        else:
            made.append(made[-tail[1]])
        yield made[-1]


def stepped_gaps(gaps, tail, most):
    """Return the first gaps of a rule, at most so many."""
    return list(islice(endless_gaps(gaps, tail), most))


def stepped_offsets(gaps, tail, most):
    """Return the offsets of the first attempts of a rule, at most so many."""
    offsets = [0]
    for gap in stepped_gaps(gaps, tail, most - 1):
        offsets.append(offsets[-1] + gap)
    return offsets


def stepped_differences(gaps, tail, most):
    """Return a dict from the differences of the first attempts, at most so many, to their pairs."""
    offsets = stepped_offsets(gaps, tail, most)
    differences = {}
    for first, second in combinations(range(len(offsets)), 2):
        differences.setdefault(offsets[second] - offsets[first], []).append((first, second))
    return differences
