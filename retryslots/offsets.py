"""Lists of the offsets of the first attempts of a rule, and how many attempts lie before a distance."""


def sums(gaps):
    """Return the sums of the beginnings of a list of gaps, from the empty one to the whole list."""
    offsets = [0]
    for gap in gaps:
        offsets.append(offsets[-1] + gap)
    return offsets


def listed_offsets(rule):
    """Return the offsets of the attempts up to the one behind the last listed gap."""
    return sums(rule.gaps())


def single_offsets(rule):
    """Return the offsets of the listed attempts before the gaps repeat, all of them if none do."""
    return listed_offsets(rule)[:rule.first_repeating()]


def repeating_offsets(rule):
    """Return the offsets of the first attempts that repeat, one for each gap that does."""
    if rule.first_repeating() is None:
        return []
    return listed_offsets(rule)[rule.first_repeating():-1]


def offsets_beyond(rule, reach):
    """Return the listed offsets, and with growing gaps those up to the first further gap that is above the reach."""
    offsets = listed_offsets(rule)
    if rule.tail()[0] == "times":
        gap = rule.gaps()[-1] * rule.tail()[1]
        offsets.append(offsets[-1] + gap)
        while gap <= reach:
            gap = gap * rule.tail()[1]
            offsets.append(offsets[-1] + gap)
    return offsets


def attempts_before(rule, distance):
    """Return how many attempts of a rule have an offset below a distance."""
    attempt = rule.first_from(distance)
    if attempt is None:
        return rule.attempts()
    return attempt
