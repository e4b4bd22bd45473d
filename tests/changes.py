"""Scenes that are moved, and scenes with all of their numbers multiplied."""

from tests.slot_by_slot import Parts

FAR = 10 ** 29


def multiplied(parts, number):
    """Return the parts of a scene with all of its numbers multiplied."""
    return Parts([gap * number for gap in parts.gaps], parts.tail, [start * number for start in parts.starts],
                 [(first * number, after * number) for first, after in parts.outages], parts.length * number)


def shifted(parts, number):
    """Return the parts of a scene that is moved by a number of slots."""
    return Parts(parts.gaps, parts.tail, [start + number for start in parts.starts],
                 [(first + number, after + number) for first, after in parts.outages], parts.length)


def changed_scenes(parts):
    """Return scenes in which everything happens as in a scene, only in other slots."""
    return [shifted(parts, FAR).scene(), shifted(parts, -FAR - 1).scene(), multiplied(parts, 10 ** 11).scene(),
            shifted(multiplied(parts, 7), 10 ** 20).scene()]
