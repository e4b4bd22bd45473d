"""The effects of longer outages and of other rules."""

from retryslots.checks import check_bound
from retryslots.failures import attempts_made, is_earlier, served_slot
from retryslots.kinds import check_rule, check_run, check_scene
from retryslots.offsets import attempts_before
from retryslots.runs import Run
from retryslots.scenes import Scene
from retryslots.storms import settled_slot

_LONGEST_TABLE = 99


def recovered_slot(run):
    """Return the slot in which the last client is served, or None if some client is not served."""
    check_run(run)
    slots = [served_slot(run, client) for client in range(len(run.outcomes()))]
    return None if None in slots else max(slots)


def total_attempts(run):
    """Return the number of attempts that all clients make, or None if it is infinite."""
    check_run(run)
    made = [attempts_made(run, client) for client in range(len(run.outcomes()))]
    return None if None in made else sum(made)


def with_longer_outage(scene, at, extra):
    """Return the scene in which an outage ends so many slots later."""
    check_scene(scene)
    _check_outage(scene, at)
    check_bound("extra", extra, 0, _room_behind(scene, at))
    return _with_extra(scene, at, extra)


def recovery_table(scene, at, most):
    """Return the recovered slots for an outage that ends 0, 1, .. up to most slots later."""
    check_scene(scene)
    _check_outage(scene, at)
    check_bound("most", most, 0, _LONGEST_TABLE)
    check_bound("most", most, 0, _room_behind(scene, at))
    return [recovered_slot(Run(_with_extra(scene, at, extra))) for extra in range(most + 1)]


def earlier_recovery(scene, at, most):
    """Return the least number of slots by which an outage is longer that makes the last service earlier, or None."""
    table = recovery_table(scene, at, most)
    for extra in range(1, most + 1):
        if is_earlier(table[extra], table[extra - 1]):
            return extra
    return None


def first_wave(scene):
    """Return the sorted list of tuples (slot, client) of the first attempts that the rule places behind the outages."""
    settled = settled_slot(scene)
    rule = scene.rule()
    starts = scene.starts()
    if settled is None:
        settled = min(starts)
    wave = []
    for client, start in enumerate(starts):
        attempt = attempts_before(rule, settled - start)
        if attempt != rule.attempts():
            wave.extend([(start + offset, client) for offset in rule.offsets_between(attempt, attempt + 1)])
    return sorted(wave)


def compare_rules(one, other, starts, *, outages=None, length=1):
    """Return the recovered slot and the number of all attempts, for each of two rules in the same scene."""
    check_rule(one)
    check_rule(other)
    runs = [Run(Scene(rule, starts, outages=outages, length=length)) for rule in (one, other)]
    first, second = [(recovered_slot(run), total_attempts(run)) for run in runs]
    return first, second


def _check_outage(scene, at):
    """Raise the error of the number of an outage, unless a scene has such an outage."""
    check_bound("at", at, 0, len(scene.outages()) - 1)


def _room_behind(scene, at):
    """Return the number of slots between an outage and the next one, or None if there is no next one."""
    outages = scene.outages()
    if at + 1 == len(outages):
        return None
    return outages[at + 1][0] - outages[at][1]


def _with_extra(scene, at, extra):
    """Return the scene in which an outage that has so much room ends so many slots later."""
    outages = scene.outages()
    outages[at] = (outages[at][0], outages[at][1] + extra)
    return Scene(scene.rule(), scene.starts(), outages=outages, length=scene.length())
