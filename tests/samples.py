"""Objects that more than one test passes in."""

from retryslots.rules import Rule
from retryslots.runs import Run
from retryslots.scenes import Scene


class EqualToAll:
    """An object that claims to be equal to everything."""

    def __eq__(self, other):
        return True


class Incomparable:
    """An object that refuses every comparison and every text of itself."""

    def __eq__(self, other):
        raise RuntimeError("compared")

    __lt__ = __le__ = __gt__ = __ge__ = __eq__

    def __repr__(self):
        raise RuntimeError("shown")


def endless_list():
    """Return a list that contains itself."""
    held = []
    held.append(held)
    return held


def no_integers():
    """Return objects that are not integers, some of them unhashable."""
    return [
        True, False, None, "", "0", "1", "end", b"1", (), (1,), [], [1], [True], {}, {1: 2}, {1},
        frozenset(), range(3), object(), int, len, EqualToAll(), Incomparable(), endless_list(),
    ]


def document_scene():
    """Return the scene that the document's examples of runs use."""
    return Scene(Rule([5, 3], ("end",)), [0, -5], outages=[(-10, 0)], length=3)


def no_rules():
    """Return objects that are not rules."""
    return [*no_integers(), 0, 1, Rule, [5, 3], ([5, 3], ("end",)), document_scene(), Run(document_scene())]


def no_scenes():
    """Return objects that are not scenes."""
    return [*no_integers(), 0, 1, Scene, document_scene().rule(), Run(document_scene()), [document_scene()]]


def no_runs():
    """Return objects that are not runs."""
    return [*no_integers(), 0, 1, Run, document_scene(), document_scene().rule(), [Run(document_scene())]]


def no_clients(many):
    """Return objects that are not clients of a scene with so many."""
    return [*no_integers(), -1, -2, many, many + 1, 40, 10 ** 29, -10 ** 29]


def attempt_call(case, error, call, *arguments, **named):
    """Check that a call raises exactly this class, and return the error."""
    with case.assertRaises(error) as caught:
        call(*arguments, **named)
    case.assertIs(caught.exception.__class__, error)
    return caught.exception


def check_fields(case, expected, call, *arguments, **named):
    """Check that a call raises an error of the class and with the very fields of an expected one."""
    fields = vars(attempt_call(case, expected.__class__, call, *arguments, **named))
    case.assertEqual(list(fields), list(vars(expected)))
    for name, worth in vars(expected).items():
        if isinstance(worth, (int, str)) and not isinstance(worth, bool):
            case.assertIs(fields[name].__class__, worth.__class__)
            case.assertEqual(fields[name], worth)
        else:
            case.assertIs(fields[name], worth)
