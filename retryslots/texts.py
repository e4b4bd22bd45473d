"""Rules, scenes, logs and outcomes as texts."""

from retryslots.checks import are_two_integers
from retryslots.errors import InvalidLog
from retryslots.kinds import check_rule, check_run, check_scene
from retryslots.lines import Line, check_no_line, lines_of
from retryslots.rules import Rule
from retryslots.scenes import Scene


def format_rule(rule):
    """Return the text of a rule."""
    check_rule(rule)
    return _joined([*rule.gaps(), *rule.tail()])


def parse_rule(text):
    """Return the rule of a text."""
    lines = lines_of(text)
    gaps, tail = _read_rule(Line(lines, 0))
    check_no_line(lines, 1)
    return Rule(gaps, tail)


def format_scene(scene):
    """Return the text of a scene."""
    check_scene(scene)
    lines = ["rule " + format_rule(scene.rule()), _joined(["starts", *scene.starts()])]
    if scene.outages():
        lines.append(_joined(["outages", *[f"{first}..{after}" for first, after in scene.outages()]]))
    lines.append(_joined(["length", scene.length()]))
    return "\n".join(lines)


def parse_scene(text):
    """Return the scene of a text."""
    lines = lines_of(text)
    line = Line(lines, 0)
    line.one_of(("rule",))
    gaps, tail = _read_rule(line)
    line = Line(lines, 1)
    line.one_of(("starts",))
    starts = line.wholes()
    line.finish()
    line = Line(lines, 2)
    outages = []
    if line.one_of(("outages", "length")) == "outages":
        outages = _read_outages(line)
        line = Line(lines, 3)
        line.one_of(("length",))
    length = line.whole()
    line.finish()
    check_no_line(lines, 4 if outages else 3)
    return Scene(Rule(gaps, tail), starts, outages=outages, length=length)


def format_log(log):
    """Return the text of a list of tuples of two integers."""
    if not isinstance(log, list):
        raise InvalidLog(-1)
    for at, entry in enumerate(log):
        if not are_two_integers(entry):
            raise InvalidLog(at)
    return _joined([f"{slot}:{count}" for slot, count in log])


def parse_log(text):
    """Return the list of tuples of two integers of a text."""
    lines = lines_of(text)
    line = Line(lines, 0)
    log = line.pairs(":")
    line.finish()
    check_no_line(lines, 1)
    return log


def format_outcomes(run):
    """Return the texts of all outcomes of a run, as lines."""
    check_run(run)
    return "\n".join([_joined(outcome) for outcome in run.outcomes()])


def _joined(words):
    """Return the text of words and numbers."""
    return " ".join([str(word) for word in words])


def _read_rule(line):
    """Read the parts of a rule, to the end of a line."""
    gaps = line.wholes()
    word = line.one_of(("end", "times", "repeat"))
    tail = ("end",) if word == "end" else (word, line.whole())
    line.finish()
    return gaps, tail


def _read_outages(line):
    """Read at least one outage, to the end of a line."""
    outages = line.pairs("..")
    if not outages:
        line.refuse()
    line.finish()
    return outages
