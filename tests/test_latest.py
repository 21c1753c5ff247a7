import copy
import time
import unittest
from itertools import product

from latestof.errors import InvalidBounds, InvalidRules, Refuted, UnknownVariable
from latestof.latest import latest as module
from latestof.latest.latest import bound_chain, is_latest, latest, latest_times
from latestof.solve.solver import excluded, is_refutation, is_split, solve, split
from tests.plain import plain_latest, plain_tight
from tests.support import (
    BAD_RULE_SETS, BAD_VARIABLES, HUGE, JUNK, NO_INTEGERS, P, R, T, Draw, all_refutations, lowered, moved, nested,
    plainly_holds, ring, rings, shown, variants,
)

ZEROS = (0, 0, 0)
GOOD = ((-1, -4, 0), ((0, 1), (1, 2), None), None)
# None of these is bounds of size 3.
BAD_BOUNDS = tuple(value for value in JUNK if value != ZEROS) + (
    (0, 0), (0, 0, 0, 0), [0, 0, 0], (0, 0, 201), (-201, 0, 0), (0, HUGE, 0), (0, 0, -HUGE), (0, 0, True), (False, 0, 0),
    (0, None, 0), (None, None, None), (0, 0, "0"), (0, b"\x00", 0), (0, 0, (0,)), (0, [0], 0), {0: 0, 1: 0, 2: 0},
)


def drawn():
    """Return rule sets of all sizes, each with bounds."""
    draw = Draw(19)
    found = [((size, ()), tuple(draw.between(-200, 200) for _ in range(size))) for size in range(1, 9)]
    for size in range(1, 9):
        for low, high in ((-60, 59), (-1, 1), (-1, 0), (-3, 9), (-60, 0), (0, 59)):
            for reach in (0, 3, 200):
                rules = draw.rule_set(size, draw.between(1, 24), low, high, draw.between(1, 8))
                found.append((rules, tuple(draw.between(-reach, reach) for _ in range(size))))
    for size in range(1, 9):
        for total, rules in rings(size):
            found.append((rules, tuple(draw.between(-200, 200) for _ in range(size))))
    return found


def small():
    """Return small rule sets, each with bounds near 0."""
    draw = Draw(20)
    found = []
    for size, many, low, high in ((1, 3, -2, 2), (2, 3, -2, 1), (2, 4, -1, 1), (3, 4, -1, 1), (3, 3, -1, 0)):
        for _ in range(30):
            rules = draw.rule_set(size, draw.between(0, many), low, high)
            found.append((rules, tuple(draw.between(-1, 1) for _ in range(size))))
    return found


def plainly_latest_times(rules, bounds):
    """Return the latest times: tries all partial solutions in the range in which the latest one must lie."""
    size, listed = rules
    loss = max([0] + [-c for _, terms in listed for _, c in terms])
    entries = [[None] + list(range(min(bounds) - (size - 1) * loss, bound + 1)) for bound in bounds]
    best = [None] * size
    for times in product(*entries):
        if all(plainly_holds(rule, times) for rule in listed):
            for k in range(size):
                if times[k] is not None and (best[k] is None or times[k] > best[k]):
                    best[k] = times[k]
    return tuple(best)


class Examples(unittest.TestCase):
    def test_latest_times(self):
        self.assertEqual(
            [latest_times(R, (0, 0, 0)), latest_times(R, (-5, 9, 9)), latest_times(T, (5, 5))],
            [(-1, -4, 0), (-5, -8, -4), (None, None)])

    def test_is_latest(self):
        self.assertEqual(
            [is_latest(R, (0, 0, 0), GOOD),
             is_latest(R, (0, 0, 0), ((-1, -4, 0), ((0, 2), (1, 2), None), None)), is_latest(R, (0, 0, 1), GOOD)],
            [True, False, False])

    def test_bound_chain(self):
        self.assertEqual(list(bound_chain(R, (0, 0, 0), 1)), [(1, 1), (0, 0), (2, None)])

    def test_constant(self):
        self.assertEqual(module.MAX_BOUND, 200)


class Latest(unittest.TestCase):
    def check(self, rules, bounds):
        certificate = latest(rules, bounds)
        self.assertTrue(plain_latest(rules, bounds, certificate), (rules, bounds))
        self.assertIs(is_latest(rules, bounds, certificate), True, (rules, bounds))
        self.assertEqual(latest(rules, bounds), certificate)
        self.assertEqual(latest_times(rules, bounds), certificate[0])
        self.assertIs(is_split(rules, (certificate[0], certificate[2])), True)
        missing = tuple(k for k, entry in enumerate(certificate[0]) if entry is None)
        self.assertEqual(missing, excluded(rules))
        for variable in range(rules[0]):
            self.check_chain(rules, bounds, certificate[0], variable)
        return certificate[0]

    def check_chain(self, rules, bounds, times, variable):
        if times[variable] is None:
            with self.assertRaises(Refuted) as caught:
                next(bound_chain(rules, bounds, variable))
            self.assertIs(is_refutation(rules, caught.exception.reason), True)
            self.assertIn(variable, [triple[0] for triple in caught.exception.reason])
            return
        chain = list(bound_chain(rules, bounds, variable))
        self.assertEqual(chain, list(bound_chain(rules, bounds, variable)))
        self.assertTrue(all(isinstance(pair, tuple) and len(pair) == 2 for pair in chain))
        self.assertEqual(chain[0][0], variable)
        self.assertEqual(len({k for k, _ in chain}), len(chain))
        for (k, index), (j, _) in zip(chain, chain[1:]):
            self.assertEqual(rules[1][index][0], k)
            self.assertIn(j, plain_tight(rules[1][index], times))
        last, index = chain[-1]
        self.assertIsNone(index)
        self.assertEqual(times[last], bounds[last])

    def test_agrees_with_trying_all_times(self):
        for rules, bounds in small():
            self.assertEqual(self.check(rules, bounds), plainly_latest_times(rules, bounds), (rules, bounds))

    def test_agrees_with_lowering_one_by_one(self):
        for rules, bounds in drawn():
            self.assertEqual(self.check(rules, bounds), lowered(rules, bounds), (rules, bounds))

    def test_bounds_at_the_limits(self):
        for rules in (R, T, P, (8, ()), ring(8, [59, -60] * 4), ring(5, [59] * 4 + [-60])):
            for bounds in ((200,) * rules[0], (-200,) * rules[0], (200, -200, 200, -200, 200, -200, 200, -200)[:rules[0]]):
                self.assertEqual(self.check(rules, bounds), lowered(rules, bounds))
        self.assertEqual(latest_times((8, ()), (-200, 200) * 4), (-200, 200) * 4)
        # Each variable needs the one behind it, with the least delay.
        chain = (8, tuple((k, ((k + 1, -60),)) for k in range(7)))
        self.assertEqual(latest_times(chain, (200,) * 7 + (-200,)), (-620, -560, -500, -440, -380, -320, -260, -200))
        self.check(chain, (200,) * 7 + (-200,))

    def test_excluded_variables(self):
        rules = (3, T[1] + ((2, ((0, 9),)), (2, ((0, 9), (2, -1)))))
        self.assertEqual(latest(rules, (1, 2, 3))[:2], ((None,) * 3, (None,) * 3))
        rules = (3, T[1] + ((2, ((0, 9), (2, 0))),))
        self.assertEqual(latest_times(rules, (1, 2, 3)), (None, None, 3))
        self.check(rules, (1, 2, 3))
        self.assertEqual(self.check((1, ((0, ()),)), (7,)), (None,))

    def test_own_terms_do_not_bind(self):
        rules = (2, ((0, ((0, 0),)), (1, ((0, -1), (1, 0)))))
        self.assertEqual(latest(rules, (5, 5)), ((5, 5), (None, None), None))
        for reasons in (((0, 1), None), (None, (1, 1)), ((0, HUGE), None)):
            self.assertIs(is_latest(rules, (5, 5), ((5, 5), reasons, None)), False)

    def test_solutions_within_bounds_are_not_later(self):
        for rules, bounds in drawn()[::3]:
            verdict = solve(rules)
            if verdict[0] == "times":
                by = min(bound - entry for bound, entry in zip(bounds, verdict[1]))
                times = latest_times(rules, bounds)
                self.assertTrue(all(entry + by <= limit for entry, limit in zip(verdict[1], times)))

    def test_under_bounds_of_0_it_is_a_split(self):
        for rules, _ in drawn()[::3]:
            self.assertEqual(latest_times(rules, (0,) * rules[0]), split(rules)[0])


class IsLatest(unittest.TestCase):
    def test_certificates_with_one_part_changed(self):
        accepted = 0
        for rules, bounds in small()[::8] + [(R, ZEROS), (T, (5, 5)), (R, (-5, 9, 9)), drawn()[40], drawn()[90]]:
            for value in variants(latest(rules, bounds)):
                wanted = plain_latest(rules, bounds, value)
                self.assertIs(is_latest(rules, bounds, value), wanted, (rules, bounds, value))
                accepted += wanted
        self.assertGreater(accepted, 50)

    def test_all_reasons(self):
        # Every choice of reasons with ranks up to the size: just those that explain the times are accepted.
        accepted, least = 0, 0
        for rules, bounds in small()[::2]:
            times, _, refutation = latest(rules, bounds)
            entries = [None] + [(index, rank) for index in range(len(rules[1])) for rank in range(1, rules[0] + 1)]
            if len(entries) ** rules[0] > 4000:
                continue
            found = 0
            for reasons in product(entries, repeat=rules[0]):
                value = (times, reasons, refutation)
                wanted = plain_latest(rules, bounds, value)
                self.assertIs(is_latest(rules, bounds, value), wanted, (rules, bounds, value))
                found += wanted
            self.assertGreater(found, 0)
            accepted += found
            least += found == 1
        self.assertGreater(accepted, 100)
        self.assertGreater(least, 5)

    def test_all_times(self):
        for rules, bounds in small()[::3]:
            times, reasons, refutation = latest(rules, bounds)
            entries = [None] + list(range(min(bounds) - 2, max(bounds) + 2))
            for other in product(entries, repeat=rules[0]):
                accepted = is_latest(rules, bounds, (other, reasons, refutation))
                self.assertEqual(accepted, other == times)

    def test_refutations_of_others(self):
        for rules, bounds in small():
            times, reasons, refutation = latest(rules, bounds)
            missing = [k for k in range(rules[0]) if times[k] is None]
            for other in all_refutations(rules):
                for by in (0, 5, -HUGE):
                    wanted = [triple[0] for triple in other] == missing
                    self.assertIs(is_latest(rules, bounds, (times, reasons, moved(other, by))), wanted)
            self.assertIs(is_latest(rules, bounds, (times, reasons, None)), not missing)
            self.assertIs(is_latest(rules, bounds, (times, reasons, ())), False)

    def test_ranks(self):
        for first, second, wanted in ((1, 2, True), (1, HUGE, True), (HUGE, HUGE + 1, True), (HUGE, HUGE, False),
                                      (2, 1, False), (2, 2, False), (0, 1, False), (-1, 1, False), (-HUGE, 1, False)):
            value = (GOOD[0], ((0, first), (1, second), None), None)
            self.assertIs(is_latest(R, ZEROS, value), wanted)
        # Only tight terms count: under these bounds rule 0 holds by its second term alone.
        self.assertIs(is_latest(R, ZEROS, (GOOD[0], ((0, 1), (1, 2), (2, 3)), None)), False)

    def test_wrong_values(self):
        times, reasons, _ = GOOD
        for value in JUNK + (
            list(GOOD), GOOD[:2], GOOD + (None,), (list(times), reasons, None), (times, list(reasons), None),
            (times, reasons, ()), (times, reasons, False), (times, reasons, ((0, 0, 0),)), (times, reasons[:2], None),
            (times, reasons + (None,), None), (times, (None,) * 3, None), (times, (None, (1, 2), None), None),
            (times, ((0, 1), None, None), None), (times, ((0, 1), (1, 2), (2, 3)), None),
            (times, ([0, 1], (1, 2), None), None), (times, ((0, 1, 1), (1, 2), None), None),
            (times, ((0,), (1, 2), None), None), (times, ((False, 1), (1, 2), None), None),
            (times, ((0, True), (1, 2), None), None), (times, ((1, 1), (1, 2), None), None),
            (times, ((3, 1), (1, 2), None), None), (times, ((-3, 1), (1, 2), None), None),
            (times, ((0, 1), (True, 2), None), None), (times, ((0, "1"), (1, 2), None), None),
            (times, ((0, None), (1, 2), None), None), (times, ((0, 1), (HUGE, 2), None), None),
            (times, {0: (0, 1), 1: (1, 2), 2: None}, None), (times, None, None), (None, reasons, None),
            ((-2, -5, -1), reasons, None), ((-1, -4), reasons, None), ((-1, -4, False), reasons, None),
            ((-1, None, 0), reasons, None), ("abc", reasons, None),
        ):
            with self.subTest(shown(value)):
                self.assertIs(is_latest(R, ZEROS, value), False)

    def test_those_of_other_arguments(self):
        self.assertIs(is_latest((3, R[1] + ((2, ((1, 3),)),)), ZEROS, GOOD), False)
        self.assertIs(is_latest((3, R[1] + ((2, ((1, 4),)),)), ZEROS, GOOD), True)
        for bounds in ((1, 0, 0), (0, 1, 0), (-1, -4, 0), (200, 200, 0)):
            self.assertIs(is_latest(R, bounds, GOOD), True)
        for bounds in ((0, 0, -1), (-2, 0, 0), (0, -5, 0), (0, 0, 200)):
            self.assertIs(is_latest(R, bounds, GOOD), False)


class BoundChain(unittest.TestCase):
    def test_one_pair_alone(self):
        self.assertEqual(list(bound_chain(R, ZEROS, 2)), [(2, None)])
        self.assertEqual(list(bound_chain((1, ()), (-200,), 0)), [(0, None)])

    def test_two_generators_do_not_disturb_each_other(self):
        one, other = bound_chain(R, ZEROS, 1), bound_chain(R, ZEROS, 1)
        self.assertEqual([next(one), next(one), next(other), next(one), next(other)],
                         [(1, 1), (0, 0), (1, 1), (2, None), (0, 0)])

    def test_refuted(self):
        with self.assertRaises(Refuted) as caught:
            list(bound_chain(P, (0,) * 4, 3))
        self.assertIn(3, [triple[0] for triple in caught.exception.reason])
        self.assertEqual(list(bound_chain((3, T[1]), (0, 0, 9), 2)), [(2, None)])


class Errors(unittest.TestCase):
    def test_wrong_rules_come_first(self):
        for wrong in BAD_RULE_SETS + NO_INTEGERS:
            with self.subTest(shown(wrong)):
                for call in (lambda: latest(wrong, None), lambda: latest_times(wrong, None),
                             lambda: is_latest(wrong, None, None), lambda: next(bound_chain(wrong, None, None))):
                    self.assertRaises(InvalidRules, call)

    def test_then_wrong_bounds(self):
        for wrong in BAD_BOUNDS:
            with self.subTest(shown(wrong)):
                for call in (lambda: latest(R, wrong), lambda: latest_times(R, wrong),
                             lambda: is_latest(R, wrong, GOOD), lambda: next(bound_chain(R, wrong, None))):
                    self.assertRaises(InvalidBounds, call)
        self.assertRaises(InvalidBounds, latest, T, (201, 0))
        self.assertRaises(InvalidBounds, latest, T, (0, -201))

    def test_then_wrong_variables(self):
        for wrong in BAD_VARIABLES:
            with self.subTest(shown(wrong)), self.assertRaises(UnknownVariable) as caught:
                next(bound_chain(R, ZEROS, wrong))
            self.assertIs(caught.exception.variable, wrong)
        self.assertRaises(UnknownVariable, list, bound_chain(T, (0, 0), 2))

    def test_arguments_stay(self):
        for value in ([0, 0, 0], [list(GOOD)], {0: [0]}, nested(40)):
            before = copy.deepcopy(value)
            self.assertRaises(InvalidBounds, latest, R, value)
            self.assertIs(is_latest(R, ZEROS, value), False)
            self.assertEqual(value, before)


class Quick(unittest.TestCase):
    def test_eight_variables_and_24_rules(self):
        draw = Draw(22)
        sets = [draw.rule_set(8, 24, low, high) for low, high in ((-60, 59), (-60, 0), (-60, -60), (59, 59), (-1, 1))
                for _ in range(20)]
        start = time.process_time()
        for rules in sets:
            bounds = tuple(draw.between(-200, 200) for _ in range(8))
            self.assertIs(is_latest(rules, bounds, latest(rules, bounds)), True)
        self.assertLess(time.process_time() - start, 0.01 * len(sets))


if __name__ == "__main__":
    unittest.main()
