"""Small windows, and logs that are found by going through all of their slots or all lists of starts."""

import random
from itertools import combinations_with_replacement

from tests.stepping import stepped_offsets


def small_windows(many, seed):
    """Return tuples (gaps, tail, window, starts) of some small windows, the same ones for the same numbers."""
    chance = random.Random(seed)
    found = []
    for _ in range(many):
        gaps = [chance.randint(1, chance.choice((2, 4, 7))) for _ in range(chance.randint(0, 4))]
        tails = [("end",)]
        if gaps:
            tails += [("times", chance.choice((2, 2, 3))), ("repeat", chance.randint(1, len(gaps)))]
        first = chance.randint(-6, 6)
        window = (first, first + chance.randint(1, 14))
        starts = [chance.randint(first - 9, window[1] + 2) for _ in range(chance.randint(0, 4))]
        found.append((gaps, chance.choice(tails), window, starts))
    return found


def stepped_log(gaps, tail, window, starts):
    """Return the expected log, slot by slot."""
    offsets = stepped_offsets(gaps, tail, 80)
    log = []
    for slot in range(*window):
        count = sum(1 for start in starts if slot - start in offsets)
        if count > 0:
            log.append((slot, count))
    return log


def changed_log(log, window, chance):
    """Return a log with a few entries changed, removed and added."""
    counts = dict(log)
    for _ in range(chance.randint(0, 2)):
        slot = chance.randrange(*window)
        counts[slot] = max(0, counts.get(slot, 0) + chance.choice((-1, 1, 2)))
    return [(slot, counts[slot]) for slot in sorted(counts) if counts[slot] > 0]


def stepped_inference(gaps, tail, window, log):
    """Return the starts that explain a log, or the clash, slot by slot."""
    offsets = stepped_offsets(gaps, tail, 80)
    recorded = dict(log)
    starts = []
    for slot in range(*window):
        expected = sum(count for start, count in starts if slot - start in offsets)
        if recorded.get(slot, 0) < expected:
            return "clash", slot, expected, recorded.get(slot, 0)
        if recorded.get(slot, 0) > expected:
            starts.append((slot, recorded[slot] - expected))
    return "starts", starts


def stepped_explanations(gaps, tail, window, log, earliest, most):
    """Return all explanations, by trying all lists of starts."""
    useful = [start for start in range(earliest, window[1]) if stepped_log(gaps, tail, window, [start])]
    found = []
    for many in range(most + 1):
        found += [list(starts) for starts in combinations_with_replacement(useful, many)
                  if stepped_log(gaps, tail, window, starts) == log]
    return sorted(found)
