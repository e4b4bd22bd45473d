"""The examples of the document, as they stand there."""

import unittest

from tests.sessions import check_session


class RuleExamples(unittest.TestCase):
    def test_e01(self):
        check_session(self, """
            >>> from retryslots.rules import Rule
            >>> r = Rule([1, 2], ('times', 2))
            >>> [r.gap(1), r.gap(3), r.offset(4), r.attempts(), r.least_gap()]
            [2, 8, 15, None, 1]
        """)

    def test_e02(self):
        check_session(self, """
            >>> from retryslots.rules import Rule
            >>> c = Rule([4, 1, 2], ('repeat', 2))
            >>> [c.offset(3), c.offset(6), c.period()]
            [7, 11, 3]
        """)

    def test_e04(self):
        check_session(self, """
            >>> from retryslots.rules import Rule
            >>> e = Rule([5, 3], ('end',))
            >>> [e.attempts(), e.first_from(9), e.first_from(6), e.attempt_at(5), e.attempt_at(6)]
            [3, None, 2, 1, None]
        """)

    def test_e05(self):
        check_session(self, """
            >>> from retryslots.rules import Rule
            >>> e = Rule([5, 3], ('end',))
            >>> e.gap(2)
            raises InvalidAttempt(attempt=2)
        """)

    def test_e06(self):
        check_session(self, """
            >>> from retryslots.rules import Rule
            >>> r = Rule([1, 2], ('times', 2))
            >>> [r.first_from(8), r.first_from(-5), r.attempt_at(7), r.attempt_at(8)]
            [4, 0, 3, None]
        """)

    def test_e07(self):
        check_session(self, """
            >>> from retryslots.rules import Rule
            >>> Rule([0], ('end',))
            raises InvalidRule(part='gaps')
        """)

    def test_e09(self):
        check_session(self, """
            >>> from retryslots.rules import Rule
            >>> Rule([1], ('times', 2)).offset(1001)
            raises LimitExceeded(limit=1000)
        """)


class DifferenceExamples(unittest.TestCase):
    def test_e201(self):
        check_session(self, """
            >>> from retryslots.rules import Rule
            >>> from retryslots.differences import is_spread
            >>> r = Rule([1, 2], ('times', 2))
            >>> is_spread(r)
            True
        """)

    def test_e204(self):
        check_session(self, """
            >>> from retryslots.rules import Rule
            >>> from retryslots.differences import first_repetition
            >>> q = Rule([1, 1], ('times', 2))
            >>> first_repetition(q)
            ((0, 1), (1, 2))
        """)

    def test_e207(self):
        check_session(self, """
            >>> from retryslots.rules import Rule
            >>> from retryslots.differences import is_repetition
            >>> q = Rule([1, 1], ('times', 2))
            >>> is_repetition(q, ((2, 3), (0, 2)))
            True
        """)

    def test_e209(self):
        check_session(self, """
            >>> from retryslots.rules import Rule
            >>> from retryslots.differences import shared_attempts
            >>> r = Rule([1, 2], ('times', 2))
            >>> shared_attempts(r, 6)
            ([(3, 1)], [])
        """)

    def test_e213(self):
        check_session(self, """
            >>> from retryslots.rules import Rule
            >>> from retryslots.differences import most_shared
            >>> q = Rule([1, 1], ('times', 2))
            >>> most_shared(q)
            (2, 1)
        """)

    def test_e216(self):
        check_session(self, """
            >>> from retryslots.rules import Rule
            >>> from retryslots.differences import next_distance
            >>> r = Rule([1, 2], ('times', 2))
            >>> next_distance(r, 5)
            (6, (3, 1))
        """)

    def test_e219(self):
        check_session(self, """
            >>> from retryslots.rules import Rule
            >>> from retryslots.differences import count_distances
            >>> r = Rule([1, 2], ('times', 2))
            >>> count_distances(r, 10)
            7
        """)


class SceneExamples(unittest.TestCase):
    def test_e302(self):
        check_session(self, """
            >>> from retryslots.rules import Rule
            >>> from retryslots.scenes import Scene
            >>> scene = Scene(Rule([5, 3], ('end',)), [0, -5], outages=[(-10, 0)], length=3)
            >>> [scene.slot_of(1, 2), scene.attempt_in(0, 5), scene.outage_at(-1)]
            [3, 1, 0]
        """)


class RunExamples(unittest.TestCase):
    def test_e303(self):
        check_session(self, """
            >>> from retryslots.rules import Rule
            >>> from retryslots.scenes import Scene
            >>> from retryslots.runs import Run
            >>> scene = Scene(Rule([5, 3], ('end',)), [0, -5], outages=[(-10, 0)], length=3)
            >>> Run(scene).outcomes()
            [('served', 2, 8), ('served', 2, 3)]
        """)

    def test_e304(self):
        check_session(self, """
            >>> from retryslots.rules import Rule
            >>> from retryslots.scenes import Scene
            >>> from retryslots.runs import Run
            >>> scene = Scene(Rule([5, 3], ('end',)), [0, -5], outages=[(-10, 0)], length=3)
            >>> Run(scene).order()
            [(3, 1), (8, 0)]
        """)

    def test_e305(self):
        check_session(self, """
            >>> from retryslots.rules import Rule
            >>> from retryslots.scenes import Scene
            >>> from retryslots.runs import Run
            >>> scene = Scene(Rule([5, 3], ('end',)), [0, -5], outages=[(-10, 0)], length=3)
            >>> run = Run(scene)
            >>> [run.active(-1), run.active(4), run.attempting(0), run.active(9)]
            [[1], [0], [0, 1], []]
        """)

    def test_e306(self):
        check_session(self, """
            >>> from retryslots.rules import Rule
            >>> from retryslots.scenes import Scene
            >>> from retryslots.runs import Run
            >>> scene = Scene(Rule([5, 3], ('end',)), [0, -5], outages=[(-10, 0)], length=3)
            >>> run = Run(scene)
            >>> [run.event(0), run.event(5), run.event(4), run.event(3), run.event(-5), run.event(1)]
            [('met', [0, 1]), ('busy', 1, [0]), ('busy', 1, []), ('served', 1), ('outage', 0, [1]), ('idle',)]
        """)


class ReasonExamples(unittest.TestCase):
    def test_e309(self):
        check_session(self, """
            >>> from retryslots.rules import Rule
            >>> from retryslots.scenes import Scene
            >>> from retryslots.runs import Run
            >>> from retryslots.reasons import reason
            >>> scene = Scene(Rule([5, 3], ('end',)), [0, -5], outages=[(-10, 0)], length=3)
            >>> run = Run(scene)
            >>> [reason(run, 0, 0), reason(run, 0, 1), reason(run, 1, 0), reason(run, 1, 2)]
            [('met', [1]), ('busy', 1), ('outage', 0), ('served',)]
        """)

    def test_e311(self):
        check_session(self, """
            >>> from retryslots.rules import Rule
            >>> from retryslots.scenes import Scene
            >>> from retryslots.runs import Run
            >>> from retryslots.reasons import history
            >>> loop = Run(Scene(Rule([2], ('repeat', 1)), [0, 2, 4, 101], outages=[(0, 5)]))
            >>> history(loop, 0, 0, 5)
            [(0, 3, ('outage', 0)), (3, 4, ('met', [1, 2])), (4, 5, ('met', [1, 2]))]
        """)

    def test_e314(self):
        check_session(self, """
            >>> from retryslots.rules import Rule
            >>> from retryslots.scenes import Scene
            >>> from retryslots.runs import Run
            >>> from retryslots.reasons import failure_counts
            >>> scene = Scene(Rule([5, 3], ('end',)), [0, -5], outages=[(-10, 0)], length=3)
            >>> loop = Run(Scene(Rule([2], ('repeat', 1)), [0, 2, 4, 101], outages=[(0, 5)]))
            >>> [failure_counts(Run(scene), 0, 0, 3), failure_counts(loop, 0, 0, 10 ** 20)]
            [(0, 1, 1), (3, 0, 99999999999999999997)]
        """)

    def test_e315(self):
        check_session(self, """
            >>> from retryslots.rules import Rule
            >>> from retryslots.scenes import Scene
            >>> from retryslots.runs import Run
            >>> from retryslots.reasons import closed_set
            >>> closed_set(Run(Scene(Rule([2], ('repeat', 1)), [3, 3])), 1)[1]
            [0, 1]
        """)

    def test_e316(self):
        check_session(self, """
            >>> from retryslots.rules import Rule
            >>> from retryslots.scenes import Scene
            >>> from retryslots.reasons import is_closed
            >>> scene = Scene(Rule([2], ('repeat', 1)), [0, 2, 4])
            >>> [is_closed(scene, 4, [0, 1, 2]), is_closed(scene, 2, [0, 1]), is_closed(scene, 1, [0, 2]), is_closed(scene, 4, [0])]
            [True, True, False, False]
        """)


class StormExamples(unittest.TestCase):
    def test_e10(self):
        check_session(self, """
            >>> from retryslots.rules import Rule
            >>> from retryslots.scenes import Scene
            >>> from retryslots.runs import Run
            >>> from retryslots.storms import failures_behind, settled_slot
            >>> scene = Scene(Rule([1], ('times', 2)), [0, 2], outages=[(0, 4)], length=3)
            >>> run = Run(scene)
            >>> [run.outcomes(), settled_slot(scene), failures_behind(run, 0), failures_behind(run, 1)]
            [[('served', 4, 15), ('served', 2, 5)], 4, (1, 0), (0, 0)]
        """)

    def test_e11(self):
        check_session(self, """
            >>> from retryslots.rules import Rule
            >>> from retryslots.scenes import Scene
            >>> from retryslots.storms import failure_bounds
            >>> scene = Scene(Rule([1], ('times', 2)), [0, 2], outages=[(0, 4)], length=3)
            >>> failure_bounds(scene)
            (None, 1)
        """)

    def test_e12(self):
        check_session(self, """
            >>> from retryslots.rules import Rule
            >>> from retryslots.storms import blocking_starts
            >>> blocking_starts(Rule([1], ('times', 2)), -1, -20, 2)
            [-3, -5]
        """)

    def test_e13(self):
        check_session(self, """
            >>> from retryslots.rules import Rule
            >>> from retryslots.scenes import Scene
            >>> from retryslots.storms import placements
            >>> placements(Scene(Rule([], ('end',)), [0, 1], length=2), 0, 2)
            [(0, ('ended',)), (1, ('ended',)), (2, ('served', 0, 2))]
        """)

    def test_e14(self):
        check_session(self, """
            >>> from retryslots.rules import Rule
            >>> from retryslots.scenes import Scene
            >>> from retryslots.storms import helping_starts, harming_starts
            >>> scene = Scene(Rule([], ('end',)), [0, 1], length=2)
            >>> [helping_starts(scene, 1, 0, 2), harming_starts(scene, 0, 0, 2)]
            [[0], [0]]
        """)


class LogExamples(unittest.TestCase):
    def test_e222(self):
        check_session(self, """
            >>> from retryslots.rules import Rule
            >>> from retryslots.logs import expected_log
            >>> e = Rule([5, 3], ('end',))
            >>> expected_log(e, (0, 10), [2, 0, 0, -3])
            [(0, 2), (2, 2), (5, 3), (7, 1), (8, 2)]
        """)

    def test_e225(self):
        check_session(self, """
            >>> from retryslots.rules import Rule
            >>> from retryslots.logs import infer_starts
            >>> e = Rule([5, 3], ('end',))
            >>> infer_starts(e, (0, 10), [(0, 2), (2, 1), (5, 2), (7, 1), (8, 2)])
            ('starts', [(0, 2), (2, 1)])
        """)

    def test_e228(self):
        check_session(self, """
            >>> from retryslots.rules import Rule
            >>> from retryslots.logs import remaining_log
            >>> e = Rule([5, 3], ('end',))
            >>> remaining_log(e, (0, 10), [(0, 2), (2, 2), (5, 3), (7, 1), (8, 2)], [-3])
            ('log', [(0, 2), (2, 1), (5, 2), (7, 1), (8, 2)])
        """)

    def test_e230(self):
        check_session(self, """
            >>> from retryslots.logs import joined_logs
            >>> joined_logs((0, 10), [(0, 1), (5, 1)], [(5, 2), (7, 1)])
            [(0, 1), (5, 3), (7, 1)]
        """)

    def test_e231(self):
        check_session(self, """
            >>> from retryslots.rules import Rule
            >>> from retryslots.logs import is_explanation
            >>> e = Rule([5, 3], ('end',))
            >>> is_explanation(e, (0, 3), [(0, 1)], [-5])
            True
        """)

    def test_e233(self):
        check_session(self, """
            >>> from retryslots.rules import Rule
            >>> from retryslots.logs import explanations
            >>> e = Rule([5, 3], ('end',))
            >>> explanations(e, (0, 3), [(0, 1)], -8, 1)
            [[-8], [-5], [0]]
        """)


class ShortExamples(unittest.TestCase):
    def test_e16(self):
        check_session(self, """
            >>> from retryslots.short import is_spread_list
            >>> [is_spread_list([1, 2]), is_spread_list([1, 2, 1])]
            [True, False]
        """)

    def test_e17(self):
        check_session(self, """
            >>> from retryslots.short import next_gaps
            >>> [next_gaps([1], 4), next_gaps([1, 3], 5)]
            [[2, 3, 4], [2, 5]]
        """)

    def test_e18(self):
        check_session(self, """
            >>> from retryslots.short import extended
            >>> extended([], 4)
            [1, 2, 4, 5]
        """)

    def test_e19(self):
        check_session(self, """
            >>> from retryslots.short import spread_lists
            >>> spread_lists(3, 3)
            [[1, 2], [2, 1]]
        """)

    def test_e20(self):
        check_session(self, """
            >>> from retryslots.short import shortest
            >>> shortest(4)
            (6, [[1, 3, 2], [2, 3, 1]])
        """)


class LoopExamples(unittest.TestCase):
    def test_e236(self):
        check_session(self, """
            >>> from retryslots.rules import Rule
            >>> from retryslots.loops import loop_distances
            >>> c = Rule([4, 1, 2], ('repeat', 2))
            >>> loop_distances(c)
            [0, 1, 2]
        """)

    def test_e239(self):
        check_session(self, """
            >>> from retryslots.rules import Rule
            >>> from retryslots.loops import meets_forever
            >>> meets_forever(Rule([7, 2], ('repeat', 1)), -4)
            True
        """)

    def test_e241(self):
        check_session(self, """
            >>> from retryslots.rules import Rule
            >>> from retryslots.loops import blocked_clients
            >>> c = Rule([4, 1, 2], ('repeat', 2))
            >>> blocked_clients(c, [0, 1, 2])
            [(0, (2, 1)), (1, (0, 2)), (2, (1, 0))]
        """)

    def test_e246(self):
        check_session(self, """
            >>> from retryslots.rules import Rule
            >>> from retryslots.loops import next_service
            >>> c = Rule([4, 1, 2], ('repeat', 2))
            >>> next_service(c, [0, 1], 20)
            (21, 1)
        """)

    def test_e249(self):
        check_session(self, """
            >>> from retryslots.rules import Rule
            >>> from retryslots.loops import service_order
            >>> c = Rule([4, 1, 2], ('repeat', 2))
            >>> service_order(c, [0, 1], 20, 3)
            [(21, 1), (25, 0)]
        """)

    def test_e251(self):
        check_session(self, """
            >>> from retryslots.rules import Rule
            >>> from retryslots.loops import fewest_removed
            >>> c = Rule([4, 1, 2], ('repeat', 2))
            >>> fewest_removed(c, [0, 1, 2])
            [0]
        """)


class EffectExamples(unittest.TestCase):
    def test_e22(self):
        check_session(self, """
            >>> from retryslots.rules import Rule
            >>> from retryslots.scenes import Scene
            >>> from retryslots.runs import Run
            >>> from retryslots.effects import recovered_slot, total_attempts
            >>> run = Run(Scene(Rule([1], ('times', 2)), [0, 2], outages=[(0, 4)], length=3))
            >>> [recovered_slot(run), total_attempts(run)]
            [15, 8]
        """)

    def test_e23(self):
        check_session(self, """
            >>> from retryslots.rules import Rule
            >>> from retryslots.scenes import Scene
            >>> from retryslots.effects import recovery_table, earlier_recovery
            >>> scene = Scene(Rule([1], ('times', 2)), [0, 2], outages=[(0, 4)], length=3)
            >>> [recovery_table(scene, 0, 2), earlier_recovery(scene, 0, 2)]
            [[15, 15, 17], None]
        """)

    def test_e24(self):
        check_session(self, """
            >>> from retryslots.rules import Rule
            >>> from retryslots.scenes import Scene
            >>> from retryslots.effects import first_wave
            >>> first_wave(Scene(Rule([1], ('times', 2)), [0, 2], outages=[(0, 4)], length=3))
            [(5, 1), (7, 0)]
        """)

    def test_e25(self):
        check_session(self, """
            >>> from retryslots.rules import Rule
            >>> from retryslots.effects import compare_rules
            >>> compare_rules(Rule([1], ('times', 2)), Rule([2], ('repeat', 1)), [0, 2], outages=[(0, 4)])
            ((7, 7), (None, None))
        """)

    def test_e26(self):
        check_session(self, """
            >>> from retryslots.rules import Rule
            >>> from retryslots.scenes import Scene
            >>> from retryslots.effects import with_longer_outage
            >>> scene = Scene(Rule([2], ('times', 2)), [0], outages=[(0, 4), (6, 9)])
            >>> [with_longer_outage(scene, 0, 2).outages(), scene.outages()]
            [[(0, 6), (6, 9)], [(0, 4), (6, 9)]]
        """)


class TextExamples(unittest.TestCase):
    def test_e27(self):
        check_session(self, """
            >>> from retryslots.rules import Rule
            >>> from retryslots.texts import format_rule, parse_rule
            >>> [format_rule(Rule([1, 2], ('times', 2))), parse_rule('end') == Rule([], ('end',))]
            ['1 2 times 2', True]
        """)

    def test_e28(self):
        check_session(self, r"""
            >>> from retryslots.rules import Rule
            >>> from retryslots.scenes import Scene
            >>> from retryslots.texts import format_scene
            >>> format_scene(Scene(Rule([5, 3], ('end',)), [0, -5], outages=[(-10, 0)], length=3))
            'rule 5 3 end\nstarts 0 -5\noutages -10..0\nlength 3'
        """)

    def test_e29(self):
        check_session(self, r"""
            >>> from retryslots.rules import Rule
            >>> from retryslots.scenes import Scene
            >>> from retryslots.runs import Run
            >>> from retryslots.texts import format_outcomes
            >>> format_outcomes(Run(Scene(Rule([5, 3], ('end',)), [0, -5], outages=[(-10, 0)], length=3)))
            'served 2 8\nserved 2 3'
        """)

    def test_e30(self):
        check_session(self, """
            >>> from retryslots.texts import format_log, parse_log
            >>> [format_log([(0, 2), (5, 1)]), parse_log('0:2 5:1'), parse_log('')]
            ['0:2 5:1', [(0, 2), (5, 1)], []]
        """)

    def test_e31(self):
        check_session(self, """
            >>> from retryslots.texts import parse_rule
            >>> parse_rule('1 02 end')
            raises InvalidText(line=0, word=1)
        """)

    def test_e33(self):
        check_session(self, r"""
            >>> from retryslots.texts import parse_scene
            >>> parse_scene('rule end\nstarts 1')
            raises InvalidText(line=2, word=0)
        """)


if __name__ == "__main__":
    unittest.main()
