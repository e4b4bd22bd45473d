"""The services of a scene, found without stepping through its slots."""

from heapq import heappop, heappush

from retryslots.offsets import repeating_offsets


def find_services(scene):
    """Return the ascending list of tuples (slot, client) of all services in a scene."""
    return Course(scene).services()


class Course:
    """What happens in a scene, in the slots that may change something.

    These are the slots of the attempts before the gaps repeat, of each client's
    first repeating attempt, and those with exactly one repeating attempt.
    Between them, clients whose attempts repeat only meet one another.
    """

    def __init__(self, scene):
        self._scene = scene
        self._starts = scene.starts()
        self._gaps = SingleGaps(scene.rule())
        self._loop = Loop(scene.rule())
        self._queue = []
        for client, start in enumerate(self._starts):
            heappush(self._queue, (start, client, 0))
        # No slot before this one is left in which a client may be served.
        self._free = min(self._starts)
        # Clients with equal starts always meet, so there is no waiting for them.
        self._waiting = len([start for start in self._starts if self._starts.count(start) == 1])
        self._services = []

    def services(self):
        """Return the list of all services."""
        slot = self._following()
        while self._waiting > 0 and slot is not None:
            self._pass_slot(slot)
            slot = self._following()
        return self._services

    def _following(self):
        """Return the next slot that may change something, or None."""
        lone = self._loop.lone_from(self._free)
        if self._queue and (lone is None or self._queue[0][0] < lone):
            return self._queue[0][0]
        return lone

    def _pass_slot(self, slot):
        """Take the attempts of a slot, and queue the next ones of the clients that fail."""
        due = []
        while self._queue and self._queue[0][0] == slot:
            _, client, attempt = heappop(self._queue)
            if self._loop.begins(attempt):
                self._loop.enter(client, self._starts[client])
            else:
                due.append((client, attempt))
        served = self._decide(slot, [client for client, _ in due] + self._loop.clients_in(slot))
        for client, attempt in due:
            gap = self._gaps.behind(attempt)
            if client != served and gap is not None:
                heappush(self._queue, (slot + gap, client, attempt + 1))

    def _decide(self, slot, clients):
        """Serve the client that makes the only attempt of a slot, if it can be served; return it, or None."""
        if slot < self._free:
            return None
        at = self._scene.outage_at(slot)
        if at is not None:
            self._free = self._scene.outages()[at][1]
            return None
        if len(clients) != 1:
            self._free = slot + 1
            return None
        client = clients[0]
        self._free = slot + self._scene.length()
        self._waiting = self._waiting - 1
        self._services.append((slot, client))
        self._loop.leave(client)
        return client


class SingleGaps:
    """The gaps of a rule before those that repeat, without the limit of growing gaps."""

    def __init__(self, rule):
        self._gaps = rule.gaps()[:rule.first_repeating()]
        self._factor = None
        if rule.tail()[0] == "times":
            self._factor = rule.tail()[1]

    def behind(self, attempt):
        """Return the gap behind an attempt, or None if there is none."""
        while self._factor is not None and attempt >= len(self._gaps):
            self._gaps.append(self._gaps[-1] * self._factor)
        if attempt < len(self._gaps):
            return self._gaps[attempt]
        return None


class Loop:
    """The clients whose attempts repeat, by the residues of their slots modulo the period."""

    def __init__(self, rule):
        self._period = rule.period()
        self._first = rule.first_repeating()
        self._offsets = repeating_offsets(rule)
        self._clients = {}
        self._lone = None
        self._changed = False

    def begins(self, attempt):
        """Tell whether the attempts repeat from this one on."""
        return attempt == self._first

    def enter(self, client, start):
        """Add a client with a start."""
        for offset in self._offsets:
            self._clients.setdefault((start + offset) % self._period, []).append(client)
        self._changed = True

    def leave(self, client):
        """Remove a client, if it is here."""
        for residue in list(self._clients):
            if client in self._clients[residue]:
                self._clients[residue].remove(client)
        self._changed = True

    def clients_in(self, slot):
        """Return the list of the clients that make an attempt in a slot."""
        if self._first is None:
            return []
        return list(self._clients.get(slot % self._period, []))

    def lone_from(self, slot):
        """Return the first slot in which exactly one client makes an attempt, from one on, or None.

        The slots that are asked for may only grow.
        """
        if self._changed or self._lone is not None and self._lone < slot:
            lone = [residue for residue in self._clients if len(self._clients[residue]) == 1]
            self._lone = min([slot + (residue - slot) % self._period for residue in lone], default=None)
            self._changed = False
        return self._lone
