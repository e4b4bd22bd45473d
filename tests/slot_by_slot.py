"""Small scenes, and what happens in them slot by slot, as point 19 of the document states it."""

import random

from retryslots.rules import Rule
from retryslots.scenes import Scene
from tests.stepping import stepped_offsets


class Parts:
    """The parts of a scene, from which the scene and its slots are made."""

    def __init__(self, gaps, tail, starts, outages=(), length=1):
        self.gaps = list(gaps)
        self.tail = tail
        self.starts = list(starts)
        self.outages = list(outages)
        self.length = length

    def __repr__(self):
        return f"Parts({self.gaps}, {self.tail}, {self.starts}, {self.outages}, {self.length})"

    def scene(self):
        return Scene(Rule(self.gaps, self.tail), self.starts, outages=self.outages, length=self.length)

    def last(self):
        """Return a slot behind which no client is served that has not been served before.

        Behind all outages and all listed gaps there is time for every service,
        and for two periods before each. For growing gaps the slot is only far
        away, as the samples are small.
        """
        settled = max([*self.starts, *[after for first, after in self.outages]]) + sum(self.gaps)
        if self.tail[0] == "times":
            return settled + 40 * (len(self.starts) * self.length + max(self.gaps))
        return settled + (len(self.starts) + 1) * (self.length + 2 * sum(self.gaps)) + 1


def small_scenes(many, seed):
    """Return the parts of some small scenes, the same ones for the same numbers."""
    chance = random.Random(seed)
    return [_small_scene(chance) for _ in range(many)]


def _small_scene(chance):
    gaps = [chance.randint(1, chance.choice((2, 4, 7))) for _ in range(chance.randint(0, 4))]
    tails = [("end",)]
    if gaps:
        tails += [("times", chance.choice((2, 2, 3))), ("repeat", chance.randint(1, len(gaps)))]
    reach = chance.choice((4, 10, 25))
    starts = [chance.randint(-reach, reach) for _ in range(chance.randint(1, 6))]
    outages = []
    first = chance.randint(-reach - 3, reach)
    for _ in range(chance.randint(0, 3)):
        outages.append((first, first + chance.randint(1, 8)))
        first = outages[-1][1] + chance.choice((0, 0, 1, 5))
    return Parts(gaps, chance.choice(tails), starts, outages, chance.choice((1, 1, 2, 3, 5, 9)))


class Stepped:
    """What happens in a scene in each slot from the least start on, up to a last one."""

    def __init__(self, parts):
        self.parts = parts
        self.first = min(parts.starts)
        self.last = parts.last()
        most = self.last - self.first
        offsets = stepped_offsets(parts.gaps, parts.tail, most + 2)
        self.attempts = {offset: attempt for attempt, offset in enumerate(offsets) if offset <= most}
        self.served = {}
        self.events = {}
        for slot in range(self.first, self.last + 1):
            self.events[slot] = self.step(slot)

    def attempt_in(self, client, slot):
        return self.attempts.get(slot - self.parts.starts[client])

    def step(self, slot):
        clients = [client for client in range(len(self.parts.starts))
                   if client not in self.served and self.attempt_in(client, slot) is not None]
        for at, (first, after) in enumerate(self.parts.outages):
            if slot in range(first, after):
                return ("outage", at, clients)
        for client, (attempt, begin) in self.served.items():
            if begin in range(slot - self.parts.length + 1, slot):
                return ("busy", client, clients)
        if len(clients) > 1:
            return ("met", clients)
        if clients:
            self.served[clients[0]] = (self.attempt_in(clients[0], slot), slot)
            return ("served", clients[0])
        return ("idle",)

    def outcomes(self):
        failed = ("ended",) if self.parts.tail[0] == "end" else ("never",)
        return [("served", *self.served[client]) if client in self.served else failed
                for client in range(len(self.parts.starts))]

    def order(self):
        return sorted((slot, client) for client, (attempt, slot) in self.served.items())

    def active(self, slot):
        found = []
        for client, start in enumerate(self.parts.starts):
            waits = client not in self.served or slot <= self.served[client][1]
            ended = self.parts.tail[0] == "end" and slot > start + sum(self.parts.gaps)
            if start <= slot and waits and not ended:
                found.append(client)
        return found

    def attempting(self, slot):
        return [client for client in self.active(slot) if self.attempt_in(client, slot) is not None]
