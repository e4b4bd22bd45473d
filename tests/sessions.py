"""Runs sessions as the document of the program writes them.

A session has lines that begin with `>>> `, the last of which is an expression,
and one line behind them: the value of the expression, or `raises` and the error
with its fields.
"""

import ast

from retryslots import errors


def check_session(case, text):
    """Check a session within a test case."""
    lines = [line.strip() for line in text.strip().splitlines()]
    calls = [line[4:] for line in lines if line.startswith(">>> ")]
    expected = lines[-1]
    case.assertEqual(len(calls) + 1, len(lines), "a session has one line of result")
    names = {}
    for call in calls[:-1]:
        exec(call, names)
    if expected.startswith("raises "):
        check_error(case, expected[7:], lambda: eval(calls[-1], names))
    else:
        case.assertEqual(repr(eval(calls[-1], names)), expected)


def check_error(case, expected, call):
    """Check that a call raises an error that is written as a call of its class."""
    written = ast.parse(expected, mode="eval").body
    fields = {field.arg: ast.literal_eval(field.value) for field in written.keywords}
    with case.assertRaises(errors.RetryError) as caught:
        call()
    case.assertIs(caught.exception.__class__, getattr(errors, written.func.id))
    case.assertEqual(vars(caught.exception), fields)
