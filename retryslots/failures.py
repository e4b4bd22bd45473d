"""The attempts that clients make in a run, and the slots in which all of their attempts fail alike."""


def attempts_made(run, client):
    """Return how many attempts a client makes, or None if they do not end."""
    outcome = run.outcome(client)
    if outcome[0] == "served":
        return outcome[1] + 1
    return run.scene().rule().attempts()


def served_slot(run, client):
    """Return the slot in which a client is served, or None."""
    outcome = run.outcome(client)
    return outcome[2] if outcome[0] == "served" else None


def is_earlier(one, other):
    """Tell whether a slot is earlier than another one, where None stands for never."""
    return one is not None and (other is None or one < other)


def failing_spans(run):
    """Return the ascending list of tuples (first, after, reason) of the slots in which all attempts fail alike.

    These are the outages and, without them, the slots in which the server is
    busy with one client. An outage divides the slots of a service.
    """
    outages = run.scene().outages()
    spans = [(first, after, ("outage", at)) for at, (first, after) in enumerate(outages)]
    for slot, client in run.order():
        for first, after in _parts_between(outages, slot + 1, slot + run.scene().length()):
            spans.append((first, after, ("busy", client)))
    return sorted(spans)


def _parts_between(outages, first, after):
    """Return the parts of the slots from one on and before another one that lie in no outage."""
    parts = []
    for begin, end in [*outages, (after, after)]:
        stop = min(begin, after)
        if first < stop:
            parts.append((first, stop))
        first = max(first, end)
    return parts
