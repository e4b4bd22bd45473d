"""Objects that more than one test passes in."""


class EqualToAll:
    """An object that claims to be equal to everything."""

    def __eq__(self, other):
        return True


class Incomparable:
    """An object that refuses every comparison and every text of itself."""

    def __eq__(self, other):
        raise RuntimeError("compared")

    __lt__ = __le__ = __gt__ = __ge__ = __eq__

    def __repr__(self):
        raise RuntimeError("shown")


def endless_list():
    """Return a list that contains itself."""
    held = []
    held.append(held)
    return held


def no_integers():
    """Return objects that are not integers, some of them unhashable."""
    return [
        True, False, None, "", "0", "1", "end", b"1", (), (1,), [], [1], [True], {}, {1: 2}, {1},
        frozenset(), range(3), object(), int, len, EqualToAll(), Incomparable(), endless_list(),
    ]


def attempt_call(case, error, call, *arguments, **named):
    """Check that a call raises exactly this class, and return the error."""
    with case.assertRaises(error) as caught:
        call(*arguments, **named)
    case.assertIs(caught.exception.__class__, error)
    return caught.exception
