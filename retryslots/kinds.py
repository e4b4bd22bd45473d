"""Checks of arguments that are rules, scenes and runs."""

from retryslots.errors import InvalidScene
from retryslots.rules import Rule
from retryslots.runs import Run
from retryslots.scenes import Scene


def check_rule(value):
    """Raise the error of a rule, unless a value is one."""
    if not isinstance(value, Rule):
        raise InvalidScene("rule", -1)


def check_scene(value):
    """Raise the error of a scene, unless a value is one."""
    if not isinstance(value, Scene):
        raise InvalidScene("scene", -1)


def check_run(value):
    """Raise the error of a run, unless a value is one."""
    if not isinstance(value, Run):
        raise InvalidScene("run", -1)
