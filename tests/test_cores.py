import copy
import time
import unittest
from itertools import combinations, islice

from latestof.errors import InvalidRules
from latestof.rules.times import shifted
from latestof.solve.cores import all_cores, core_certificate, is_core_certificate
from latestof.solve.solver import is_refutation, solve
from tests.plain import plain_core_certificate, plainly_feasible
from tests.support import (
    BAD_RULE_SETS, HUGE, JUNK, NO_INTEGERS, P, R, T, Draw, all_refutations, lowered, moved, nested, ring, rings, shown,
    variants,
)

GOOD = ((0, 1), ((0, 0, 0), (1, 1, 1)), ((0, 0), (-1, 0)))
EVERYTHING = tuple((j, tuple((k, -60) for k in range(8))) for j in range(8))


def cores_by_all_subsets(rules):
    """Return all cores: tries every set of rules, the small ones first."""
    size, listed = rules
    found = []
    for many in range(1, len(listed) + 1):
        for chosen in combinations(range(len(listed)), many):
            if any(set(core) <= set(chosen) for core in found):
                continue
            if None in lowered((size, tuple(listed[k] for k in chosen))):
                found.append(chosen)
    return sorted(found)


def small_rule_sets():
    draw = Draw(11)
    found = [(size, ()) for size in range(1, 9)]
    for size, many, low, high in ((1, 4, -2, 2), (2, 6, -2, 1), (3, 8, -3, 1), (3, 8, -1, 0), (4, 8, -3, 2),
                                  (5, 8, -2, 0), (8, 8, -1, 0), (4, 8, -60, 59)):
        for most_terms in (1, 2, 3):
            found += [draw.rule_set(size, draw.between(1, many), low, high, most_terms) for _ in range(9)]
    return found


class Examples(unittest.TestCase):
    def test_core_certificate(self):
        self.assertEqual([core_certificate(T)[0], core_certificate(R)], [(0, 1), None])

    def test_is_core_certificate(self):
        self.assertEqual(
            [is_core_certificate(T, ((0, 1), ((0, 0, 0), (1, 1, 1)), ((0, 0), (-1, 0)))),
             is_core_certificate(T, ((0, 1), ((0, 0, 0), (1, 1, 1)), ((0, 0), (0, 0))))], [True, False])

    def test_all_cores(self):
        self.assertEqual(list(all_cores((2, T[1] + ((0, ((0, -3),)), (1, ((0, 0), (1, 5))))))), [(0, 1), (3,)])


class CoreCertificate(unittest.TestCase):
    def check(self, rules):
        certificate = core_certificate(rules)
        self.assertEqual(certificate is None, solve(rules)[0] == "times", rules)
        if certificate is not None:
            self.assertTrue(plain_core_certificate(rules, certificate), rules)
            self.assertIs(is_core_certificate(rules, certificate), True, rules)
            self.assertIs(is_refutation(rules, certificate[1]), True, rules)
        self.assertEqual(core_certificate(rules), certificate)
        return certificate

    def test_small_rule_sets(self):
        for rules in small_rule_sets():
            certificate = self.check(rules)
            cores = cores_by_all_subsets(rules)
            self.assertEqual(list(all_cores(rules)), cores, rules)
            if certificate is None:
                self.assertEqual(cores, [])
            else:
                self.assertIn(certificate[0], cores)

    def test_agrees_with_trying_all_times(self):
        draw = Draw(12)
        for size, many in ((1, 3), (2, 4), (3, 4)):
            for _ in range(40):
                rules = draw.rule_set(size, many, -2, 1)
                self.assertEqual(self.check(rules) is None, plainly_feasible(*rules), rules)

    def test_rings(self):
        for size in range(1, 9):
            for total, rules in rings(size):
                certificate = self.check(rules)
                wanted = [tuple(range(size))] if total < 0 else []
                self.assertEqual(list(all_cores(rules)), wanted)
                self.assertEqual([] if certificate is None else [certificate[0]], wanted)

    def test_great_rule_sets(self):
        draw = Draw(13)
        for low, high in ((-60, 59), (-60, -60), (-60, 0), (59, 59), (-1, 0)):
            for size in range(1, 9):
                for most_terms in (1, 3, 8):
                    self.check(draw.rule_set(size, 24, low, high, most_terms))
        self.check((8, EVERYTHING * 3))

    def test_rules_without_terms(self):
        rules = (8, ((0, ((1, -60),)), (1, ((0, 59),)), (7, ()), (3, ()), (7, ())))
        self.assertEqual(list(all_cores(rules)), [(0, 1), (2,), (3,), (4,)])
        self.assertEqual(core_certificate((1, ((0, ()),))), ((0,), ((0, 0, 0),), ((0,),)))
        self.check(P)

    def test_repeated_rules(self):
        rules = (2, T[1][:2] * 3)
        self.assertEqual(list(all_cores(rules)), [(a, b) for a, b in
                                                  [(0, 1), (0, 3), (0, 5), (1, 2), (1, 4), (2, 3), (2, 5), (3, 4),
                                                   (4, 5)]])
        self.assertEqual(len(list(all_cores((1, ((0, ((0, -1),)),) * 24)))), 24)
        self.check(rules)

    def test_own_terms(self):
        self.assertEqual(list(all_cores((1, ((0, ((0, 0),)), (0, ((0, -1),)), (0, ((0, 59),)))))), [(1,)])
        # The circular way of variable 1 alone does not lose.
        self.assertEqual(list(all_cores((2, ((0, ((1, -60),)), (1, ((0, -60), (1, 0))))))), [])
        self.assertEqual(list(all_cores((2, ((0, ((1, -60),)), (1, ((0, -60), (1, -1))))))), [(0, 1)])

    def test_rules_that_do_not_lead_back(self):
        # Rule 0 leads to the core of the others, but they do without it.
        rules = (3, ((0, ((1, -9), (2, -9))), (1, ((2, -1),)), (2, ((1, 0),))))
        self.assertEqual(list(all_cores(rules)), [(1, 2)])
        self.assertEqual(core_certificate(rules)[0], (1, 2))


class AllCores(unittest.TestCase):
    def test_thousands(self):
        start = time.process_time()
        cores = list(all_cores((8, EVERYTHING * 3)))
        self.assertLess(time.process_time() - start, 3)
        self.assertEqual(len(cores), 3 ** 8)
        self.assertEqual(cores, sorted(set(cores)))
        self.assertTrue(all(sorted(k % 8 for k in core) == list(range(8)) for core in cores))

    def test_ascending_tuples(self):
        for rules in small_rule_sets():
            cores = list(all_cores(rules))
            self.assertEqual(cores, sorted(set(cores)))
            self.assertTrue(all(isinstance(core, tuple) and list(core) == sorted(set(core)) for core in cores))

    def test_two_generators_do_not_disturb_each_other(self):
        rules = (8, EVERYTHING * 3)
        one, other = all_cores(rules), all_cores(rules)
        first = list(islice(one, 100))
        self.assertEqual(list(islice(other, 3000))[:100], first)
        self.assertEqual(next(one), list(islice(all_cores(rules), 101))[100])
        self.assertEqual(list(all_cores(T)), list(all_cores(T)))

    def test_wrong_rules(self):
        for wrong in BAD_RULE_SETS + NO_INTEGERS:
            with self.subTest(shown(wrong)), self.assertRaises(InvalidRules):
                next(all_cores(wrong))


class IsCoreCertificate(unittest.TestCase):
    def test_certificates_with_one_part_changed(self):
        accepted = 0
        for rules in [T, P, (1, ((0, ()),)), ring(3, (2, -1, -2)), (3, ring(3, (2, -1, -2))[1] * 2)] + [
                rules for rules in small_rule_sets() if solve(rules)[0] == "refuted"][::6]:
            for value in variants(core_certificate(rules)):
                wanted = plain_core_certificate(rules, value)
                self.assertIs(is_core_certificate(rules, value), wanted, (rules, value))
                accepted += wanted
        self.assertGreater(accepted, 50)

    def test_all_numbers_moved(self):
        for by in (1, -1, HUGE, -HUGE):
            value = (GOOD[0], moved(GOOD[1], by), tuple(shifted(times, -by) for times in GOOD[2]))
            self.assertIs(is_core_certificate(T, value), True)
        self.assertIs(is_core_certificate(T, (GOOD[0], moved(GOOD[1], 10 ** 9000), GOOD[2])), True)

    def test_certificates_of_others(self):
        tried = 0
        for rules in small_rule_sets()[::3]:
            size, listed = rules
            for refutation in all_refutations(rules):
                core = tuple(sorted(triple[1] for triple in refutation))
                rest = [solve((size, tuple(listed[j] for j in core if j != k)))[1] for k in core]
                value = (core, moved(refutation, 3), tuple(rest))
                # A refutation of more than a core is not enough: then some rest is refuted.
                wanted = core in cores_by_all_subsets(rules)
                self.assertIs(is_core_certificate(rules, value), wanted, (rules, value))
                tried += 1
        self.assertGreater(tried, 100)

    def test_refutation_of_more_than_the_core(self):
        rules = (2, T[1][:2] + ((0, ()),))
        self.assertIs(is_core_certificate(rules, ((2,), ((0, 2, 0),), ((7, 7),))), True)
        self.assertIs(is_core_certificate(rules, ((2,), ((0, 2, 0), (1, 1, 1)), ((7, 7),))), False)
        self.assertIs(is_core_certificate(rules, ((1, 2), ((0, 2, 0), (1, 1, 1)), ((7, 7), (7, 7)))), False)
        self.assertIs(is_core_certificate(rules, GOOD), True)
        self.assertIs(is_core_certificate(rules, ((0, 1, 2), GOOD[1], GOOD[2] + ((0, 0),))), False)

    def test_feasible_rules_have_none(self):
        for value in JUNK + (GOOD, ((), (), ()), None, core_certificate(T)):
            self.assertIs(is_core_certificate(R, value), False)
            self.assertIs(is_core_certificate((2, ()), value), False)

    def test_those_of_another_rule_set(self):
        self.assertIs(is_core_certificate((2, T[1][::-1]), GOOD), False)
        self.assertIs(is_core_certificate((3, T[1]), GOOD), False)
        self.assertIs(is_core_certificate((2, ((0, ((1, 0),)), (1, ((0, 0),)))), GOOD), False)

    def test_wrong_values(self):
        for value in JUNK + (
            list(GOOD), GOOD[:2], GOOD + (None,), (list(GOOD[0]),) + GOOD[1:], ([0, 1], GOOD[1], GOOD[2]),
            ((False, True), GOOD[1], GOOD[2]), ((1, 0), GOOD[1], GOOD[2][::-1]), ((0, 0, 1), GOOD[1], GOOD[2]),
            (GOOD[0], None, GOOD[2]), (GOOD[0], GOOD[1], None), (GOOD[0], GOOD[1], ()), (None,) + GOOD[1:],
            (GOOD[0], GOOD[1], GOOD[2][:1]), (GOOD[0], GOOD[1], GOOD[2] + ((0, 0),)), (GOOD[0], GOOD[1], GOOD[2][::-1]),
            (GOOD[0], GOOD[1], ((0, None), (-1, 0))), (GOOD[0], GOOD[1], ((0, False), (-1, 0))),
            (GOOD[0], GOOD[1], ((0, 0, 0), (-1, 0))), ("01", GOOD[1], GOOD[2]), (b"\x00\x01", GOOD[1], GOOD[2]),
            ({0: 1}, GOOD[1], GOOD[2]), ((), (), ()), ((0, 2), GOOD[1], GOOD[2]), ((0, HUGE), GOOD[1], GOOD[2]),
        ):
            with self.subTest(shown(value)):
                self.assertIs(is_core_certificate(T, value), False)

    def test_wrong_rules(self):
        for wrong in BAD_RULE_SETS + NO_INTEGERS:
            with self.subTest(shown(wrong)):
                self.assertRaises(InvalidRules, is_core_certificate, wrong, None)
                self.assertRaises(InvalidRules, core_certificate, wrong)


class Unchanged(unittest.TestCase):
    def test_arguments_stay(self):
        for value in ([[0, 1], [], []], ([0], {1: [2]}, [[]]), nested(40)):
            before = copy.deepcopy(value)
            self.assertIs(is_core_certificate(T, value), False)
            self.assertRaises(InvalidRules, core_certificate, value)
            self.assertEqual(value, before)


class Quick(unittest.TestCase):
    def test_core_certificate(self):
        draw = Draw(14)
        drawn = [(8, EVERYTHING * 3)] + [draw.rule_set(8, 24, -60, 59 if k % 2 else 0) for k in range(99)]
        start = time.process_time()
        for rules in drawn:
            self.assertIn(is_core_certificate(rules, core_certificate(rules)), (True, False))
        self.assertLess(time.process_time() - start, 2)


if __name__ == "__main__":
    unittest.main()
