"""What counts as an integer throughout the package."""


def is_integer(value):
    """Tell whether a value is an integer; True and False are not."""
    return isinstance(value, int) and not isinstance(value, bool)
