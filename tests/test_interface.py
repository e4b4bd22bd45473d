"""The interface of the document: names, arguments, and where they are defined."""

import importlib
import inspect
import unittest

INTERFACE = {
    "wholes": ["is_integer(value)"],
    "differences": [
        "is_spread(rule)", "first_repetition(rule)", "is_repetition(rule, value)", "shared_attempts(rule, distance)",
        "most_shared(rule)", "next_distance(rule, distance)", "count_distances(rule, limit)",
    ],
    "reasons": [
        "reason(run, client, attempt)", "history(run, client, first, after)",
        "failure_counts(run, client, first, after)", "closed_set(run, client)", "is_closed(scene, slot, members)",
    ],
    "storms": [
        "settled_slot(scene)", "failures_behind(run, client)", "failure_bounds(scene)",
        "blocking_starts(rule, start, low, count)", "placements(scene, low, high)",
        "helping_starts(scene, client, low, high)", "harming_starts(scene, client, low, high)",
    ],
    "logs": [
        "expected_log(rule, window, starts)", "infer_starts(rule, window, log)",
        "remaining_log(rule, window, log, starts)", "joined_logs(window, one, other)",
        "is_explanation(rule, window, log, value)", "explanations(rule, window, log, earliest, most)",
    ],
    "short": [
        "is_spread_list(gaps)", "next_gaps(gaps, most)", "extended(gaps, count)", "spread_lists(count, total)",
        "shortest(count)",
    ],
    "loops": [
        "loop_distances(rule)", "meets_forever(rule, distance)", "blocked_clients(rule, starts)",
        "is_closed(rule, starts, value)", "next_service(rule, starts, slot)",
        "service_order(rule, starts, slot, length)", "fewest_removed(rule, starts)",
    ],
    "effects": [
        "recovered_slot(run)", "total_attempts(run)", "with_longer_outage(scene, at, extra)",
        "recovery_table(scene, at, most)", "earlier_recovery(scene, at, most)", "first_wave(scene)",
        "compare_rules(one, other, starts, *, outages=None, length=1)",
    ],
    "texts": [
        "format_rule(rule)", "parse_rule(text)", "format_scene(scene)", "parse_scene(text)", "format_log(log)",
        "parse_log(text)", "format_outcomes(run)",
    ],
}
CLASSES = {
    ("rules", "Rule(gaps, tail)"): [
        "gaps()", "tail()", "attempts()", "gap(attempt)", "offset(attempt)", "first_from(distance)",
        "attempt_at(distance)", "period()", "least_gap()", "__eq__(other)",
    ],
    ("scenes", "Scene(rule, starts, *, outages=None, length=1)"): [
        "rule()", "starts()", "outages()", "length()", "slot_of(client, attempt)", "attempt_in(client, slot)",
        "outage_at(slot)", "__eq__(other)",
    ],
    ("runs", "Run(scene)"): [
        "scene()", "outcome(client)", "outcomes()", "order()", "active(slot)", "attempting(slot)", "event(slot)",
    ],
}


def module(name):
    return importlib.import_module(f"retryslots.{name}")


class Interface(unittest.TestCase):
    def test_functions(self):
        for file, calls in INTERFACE.items():
            for call in calls:
                name = call.partition("(")[0]
                function = getattr(module(file), name)
                self.assertTrue(inspect.isfunction(function), call)
                self.assertEqual(name + str(inspect.signature(function)), call)
                self.assertEqual(function.__module__, f"retryslots.{file}")

    def test_classes_and_their_methods(self):
        for (file, call), methods in CLASSES.items():
            name = call.partition("(")[0]
            found = getattr(module(file), name)
            self.assertEqual(name + str(inspect.signature(found)), call)
            self.assertEqual(found.__module__, f"retryslots.{file}")
            for method in methods:
                word, _, arguments = method.partition("(")
                self.assertIn(word, vars(found), method)
                expected = "(self, " + arguments if arguments != ")" else "(self)"
                self.assertEqual(str(inspect.signature(vars(found)[word])), expected, method)


if __name__ == "__main__":
    unittest.main()
