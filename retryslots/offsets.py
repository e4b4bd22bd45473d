"""Lists of the offsets of the first attempts of a rule."""


def listed_offsets(rule):
    """Return the offsets of the attempts up to the one behind the last listed gap."""
    return [rule.offset(attempt) for attempt in range(len(rule.gaps()) + 1)]


def offsets_beyond(rule, reach):
    """Return the listed offsets, and with growing gaps those up to the first further gap that is above the reach."""
    offsets = listed_offsets(rule)
    if rule.tail()[0] == "times":
        gap = rule.gaps()[-1] * rule.tail()[1]
        offsets.append(offsets[-1] + gap)
        while gap <= reach:
            gap = gap * rule.tail()[1]
            offsets.append(offsets[-1] + gap)
    return offsets
