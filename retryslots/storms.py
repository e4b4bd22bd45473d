"""Bounds for the failures behind an outage, and the effects of further clients."""

from retryslots.checks import MOST_CLIENTS, check_bound, check_client
from retryslots.differences import is_spread
from retryslots.errors import InvalidScene
from retryslots.failures import attempts_made, is_earlier, served_slot
from retryslots.kinds import check_rule, check_run, check_scene
from retryslots.offsets import attempts_before
from retryslots.reasons import failure_counts
from retryslots.runs import Run
from retryslots.scenes import Scene

_MOST_BLOCKING = 20
_WIDEST = 99


def settled_slot(scene):
    """Return the slot behind the last outage, or None if there is no outage."""
    check_scene(scene)
    if not scene.outages():
        return None
    return scene.outages()[-1][1]


def failures_behind(run, client):
    """Return how many attempts of a client behind the outages fail at a busy server and by meeting, or None."""
    check_run(run)
    if run.outcome(client) == ("never",):
        return None
    scene = run.scene()
    first = 0
    if scene.outages():
        first = attempts_before(scene.rule(), settled_slot(scene) - scene.starts()[client])
    made = attempts_made(run, client)
    _, busy, met = failure_counts(run, client, first, max(first, made))
    return busy, met


def failure_bounds(scene):
    """Return upper bounds for what a client fails behind the outages, or None if clients may meet more often."""
    check_scene(scene)
    starts = scene.starts()
    if len(set(starts)) < len(starts) or not is_spread(scene.rule()):
        return None
    others = len(starts) - 1
    if scene.length() == 1:
        return 0, others
    least = scene.rule().least_gap()
    if least is None or least >= scene.length():
        return others, others
    return None, others


def blocking_starts(rule, start, low, count):
    """Return the latest starts of clients that meet a client in its first attempts behind an outage, or None."""
    check_rule(rule)
    check_bound("low", low, None, -1)
    check_bound("start", start, low, -1)
    check_bound("count", count, 0, _MOST_BLOCKING)
    first = attempts_before(rule, -start)
    if rule.attempts() is not None and rule.attempts() < first + count:
        return None
    found = []
    for offset in rule.offsets_between(first, first + count):
        blocking = _latest_start(rule, start + offset, low, [start, *found])
        if blocking is None:
            return None
        found.append(blocking)
    return found


def placements(scene, low, high):
    """Return a list of tuples (start, outcome) for the starts of a further client from one to another."""
    _check_room(scene)
    _check_starts_between(low, high)
    many = len(scene.starts())
    return [(start, _with_client(scene, start).outcome(many)) for start in range(low, high + 1)]


def helping_starts(scene, client, low, high):
    """Return the ascending list of the starts of a further client with which a client is better off."""
    alone, slots = _slots_with(scene, client, low, high)
    return [start for start, slot in slots if is_earlier(slot, alone)]


def harming_starts(scene, client, low, high):
    """Return the ascending list of the starts of a further client with which a client is worse off."""
    alone, slots = _slots_with(scene, client, low, high)
    return [start for start, slot in slots if is_earlier(alone, slot)]


def _latest_start(rule, slot, low, others):
    """Return the greatest start from a low one to -1 whose first attempt from slot 0 on lies in a slot, or None.

    It differs from the other starts.
    """
    behind = attempts_before(rule, slot - low + 1)
    if rule.first_repeating() is not None:
        # The other starts are spent when each gap has been repeated once more than there are such starts.
        behind = min(behind, len(rule.gaps()) * (len(others) + 2))
    earlier = 0
    for offset in rule.offsets_between(1, behind):
        # The attempt before this one lies before slot 0.
        if offset - earlier > slot and slot - offset not in others:
            return slot - offset
        earlier = offset
    return None


def _check_room(scene):
    """Raise the errors of a scene to which a further client is added."""
    check_scene(scene)
    if len(scene.starts()) == MOST_CLIENTS:
        raise InvalidScene("starts", MOST_CLIENTS - 1)


def _check_starts_between(low, high):
    """Raise the errors of the bounds of the starts of a further client."""
    check_bound("low", low, None, None)
    check_bound("high", high, low, low + _WIDEST)


def _with_client(scene, start):
    """Return the run of a scene with a further client."""
    starts = [*scene.starts(), start]
    return Run(Scene(scene.rule(), starts, outages=scene.outages(), length=scene.length()))


def _slots_with(scene, client, low, high):
    """Check the arguments, and return when a client is served without a further client and with each of them."""
    _check_room(scene)
    check_client(client, len(scene.starts()))
    _check_starts_between(low, high)
    slots = [(start, served_slot(_with_client(scene, start), client)) for start in range(low, high + 1)]
    return served_slot(Run(scene), client), slots
