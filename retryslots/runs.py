"""Runs: what happens in a scene."""

from retryslots.checks import check_client, check_slot
from retryslots.errors import InvalidScene
from retryslots.scenes import Scene
from retryslots.services import find_services


class Run:
    """The services of a scene, and what they mean for its clients and slots."""

    def __init__(self, scene):
        if not isinstance(scene, Scene):
            raise InvalidScene("scene", -1)
        self._scene = scene
        self._order = find_services(scene)
        self._served = {client: slot for slot, client in self._order}

    def scene(self):
        """Return the scene."""
        parts = self._scene
        return Scene(parts.rule(), parts.starts(), outages=parts.outages(), length=parts.length())

    def outcome(self, client):
        """Return whether a client is served, with its attempt and slot, or fails for ever or to the end."""
        check_client(client, len(self._scene.starts()))
        if client in self._served:
            slot = self._served[client]
            return ("served", self._scene.attempt_in(client, slot), slot)
        if self._scene.rule().attempts() is not None:
            return ("ended",)
        return ("never",)

    def outcomes(self):
        """Return the list of the outcomes of all clients."""
        return [self.outcome(client) for client in range(len(self._scene.starts()))]

    def order(self):
        """Return the ascending list of tuples (slot, client) of all services."""
        return list(self._order)

    def active(self, slot):
        """Return the ascending list of the clients that have begun and make an attempt in a slot or later."""
        check_slot(slot)
        rule = self._scene.rule()
        endless = rule.attempts() is None
        active = []
        for client, start in enumerate(self._scene.starts()):
            waits = client not in self._served or self._served[client] >= slot
            if start <= slot and waits and (endless or rule.first_from(slot - start) is not None):
                active.append(client)
        return active

    def attempting(self, slot):
        """Return the ascending list of the clients that make an attempt in a slot."""
        rule = self._scene.rule()
        starts = self._scene.starts()
        active = self.active(slot)
        # Clients may have equal starts, and finding a far attempt takes long.
        placed = {}
        for client in active:
            if starts[client] not in placed:
                placed[starts[client]] = rule.attempt_at(slot - starts[client]) is not None
        return [client for client in active if placed[starts[client]]]

    def event(self, slot):
        """Return what happens in a slot."""
        clients = self.attempting(slot)
        at = self._scene.outage_at(slot)
        if at is not None:
            return ("outage", at, clients)
        occupant = self._occupant(slot)
        if occupant is not None:
            return ("busy", occupant, clients)
        if len(clients) > 1:
            return ("met", clients)
        if clients:
            return ("served", clients[0])
        return ("idle",)

    def _occupant(self, slot):
        """Return the client that was served before a slot and keeps the server busy in it, or None."""
        for begin, client in self._order:
            if begin < slot < begin + self._scene.length():
                return client
        return None
