"""Why attempts fail, and sets of clients that make one another fail for ever."""

from retryslots.checks import check_bound, check_client, check_slot
from retryslots.errors import LimitExceeded
from retryslots.failures import attempts_made, failing_spans
from retryslots.kinds import check_run, check_scene
from retryslots.offsets import attempts_before, repeating_offsets, single_offsets
from retryslots.rules import LAST_GROWING
from retryslots.wholes import is_integer

_MOST_ENTRIES = 1000


def reason(run, client, attempt):
    """Return why an attempt of a client fails, ("served",) if it does not, or None if it is not made."""
    check_run(run)
    slot = run.scene().slot_of(client, attempt)
    outcome = run.outcome(client)
    if outcome[0] == "served" and attempt >= outcome[1]:
        return ("served",) if attempt == outcome[1] else None
    event = run.event(slot)
    if event[0] == "met":
        return ("met", [other for other in event[1] if other != client])
    return event[:2]


def history(run, client, first, after):
    """Return the reasons of the attempts of a range that a client makes, as tuples (first, after, reason)."""
    stop = _checked_stop(run, client, first, after)
    rule = run.scene().rule()
    if rule.tail()[0] == "times" and first < stop and stop - 1 > LAST_GROWING:
        raise LimitExceeded(LAST_GROWING)
    start = run.scene().starts()[client]
    spans = failing_spans(run)
    entries = []
    while first < stop:
        if len(entries) == _MOST_ENTRIES:
            raise LimitExceeded(_MOST_ENTRIES)
        end = _span_end(spans, start + rule.offset(first))
        behind = first + 1 if end is None else min(stop, attempts_before(rule, end - start))
        entries.append((first, behind, reason(run, client, first)))
        first = behind
    return entries


def failure_counts(run, client, first, after):
    """Return how many attempts of a range that a client makes fail by outages, at a busy server, and by meeting."""
    stop = _checked_stop(run, client, first, after)
    if stop <= first:
        return (0, 0, 0)
    rule = run.scene().rule()
    start = run.scene().starts()[client]
    counts = {"outage": 0, "busy": 0}
    for begin, end, (word, _) in failing_spans(run):
        low = max(first, attempts_before(rule, begin - start))
        high = min(stop, attempts_before(rule, end - start))
        counts[word] = counts[word] + max(0, high - low)
    served = run.outcome(client)[0] == "served" and stop == attempts_made(run, client)
    met = stop - first - counts["outage"] - counts["busy"] - int(served)
    return (counts["outage"], counts["busy"], met)


def closed_set(run, client):
    """Return a slot and a list of clients with this one that is closed from the slot on, or None if it is served."""
    check_run(run)
    if run.outcome(client) != ("never",):
        return None
    # Behind all outages and services, clients that are not served only meet one another.
    scene = run.scene()
    quiet = [min(scene.starts())]
    quiet.extend([after for _, after in scene.outages()])
    quiet.extend([slot + scene.length() for slot, _ in run.order()])
    return max(quiet), [other for other, outcome in enumerate(run.outcomes()) if outcome == ("never",)]


def is_closed(scene, slot, members):
    """Tell whether a value is a list of distinct clients that is closed from a slot on."""
    check_scene(scene)
    check_slot(slot)
    if not _are_clients(members, len(scene.starts())):
        return False
    rule = scene.rule()
    starts = [scene.starts()[client] for client in members]
    if rule.tail()[0] == "times":
        # Clients with different starts share finitely many slots only.
        return all([starts.count(start) > 1 for start in starts])
    return all([_always_meets(rule, start, starts[:at] + starts[at + 1:], slot) for at, start in enumerate(starts)])


def _checked_stop(run, client, first, after):
    """Check the arguments of a range of attempts, and return where those of the range that are made end."""
    check_run(run)
    check_client(client, len(run.scene().starts()))
    check_bound("first", first, 0, None)
    check_bound("after", after, first, None)
    made = attempts_made(run, client)
    return after if made is None else min(after, made)


def _span_end(spans, slot):
    """Return the end of the span that contains a slot, or None."""
    for first, after, _ in spans:
        if first <= slot < after:
            return after
    return None


def _are_clients(value, many):
    """Tell whether a value is a list of two or more different clients, out of so many."""
    if not isinstance(value, list) or len(value) < 2:
        return False
    return all([is_integer(client) and 0 <= client < many for client in value]) and len(set(value)) == len(value)


def _always_meets(rule, start, others, slot):
    """Tell whether each attempt of a client from a slot on lies in the slot of an attempt of clients with other starts.

    The gaps of the rule do not grow.
    """
    singles = [start + offset for offset in single_offsets(rule) if start + offset >= slot]
    if not all([_is_met(rule, others, single) for single in singles]):
        return False
    firsts = [max(start + offset, _next_alike(rule, start + offset, slot)) for offset in repeating_offsets(rule)]
    return all([_is_met_for_ever(rule, others, first) for first in firsts])


def _is_met(rule, others, slot):
    """Tell whether a client with one of these starts makes an attempt in a slot."""
    return any([rule.attempt_at(slot - other) is not None for other in others])


def _is_met_for_ever(rule, others, first):
    """Tell whether clients with these starts make attempts in a slot and in all slots whole periods behind it."""
    repeating = rule.offset(rule.first_repeating())
    begins = [_next_alike(rule, first, other + repeating) for other in others]
    begins = [begin for at, begin in enumerate(begins) if rule.attempt_at(begin - others[at]) is not None]
    if not begins:
        return False
    begin = min(begins)
    # Before this slot, only attempts before the gaps repeat can be met, and these are few.
    slots = [other + offset for other in others for offset in single_offsets(rule)]
    single = set([slot for slot in slots if first <= slot < begin and (slot - first) % rule.period() == 0])
    return len(single) >= (begin - first) // rule.period()


def _next_alike(rule, slot, least):
    """Return the first slot from a least one on that lies whole periods before or behind a slot."""
    return least + (slot - least) % rule.period()
