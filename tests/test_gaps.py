import copy
import time
import unittest
from itertools import combinations, product

from latestof.errors import InvalidRules, Refuted, UnknownVariable
from latestof.follow.follows import follows
from latestof.latest.gaps import gap_certificate, greatest_gap, is_gap_certificate
from latestof.rules.times import shifted
from latestof.solve.solver import is_refutation, solve
from tests.plain import plain_gap, plain_upper, plainly_feasible
from tests.support import (
    BAD_RULE_SETS, BAD_VARIABLES, HUGE, JUNK, NO_INTEGERS, P, R, T, Draw, all_refutations, lowered, moved, nested, ring,
    rings, shown, variants,
)

GOOD = ("gap", 3, (0, -3, 1), ((0, 0, 11), (1, 3, 0), (2, 2, 13)))
LEAST = (2, ((0, ((1, 2),)),))


def small():
    draw = Draw(23)
    found = [(size, ()) for size in (1, 2, 3)]
    for size, many, low, high in ((1, 2, -1, 1), (2, 2, -2, 1), (2, 3, -1, 1), (3, 3, -1, 1), (3, 5, 0, 1), (3, 4, -1, 0)):
        found += [draw.rule_set(size, draw.between(1, many), low, high) for _ in range(15)]
    return found


def great():
    draw = Draw(24)
    found = [(8, ()), (8, ((0, ((1, -60),)),) * 24)]
    for low, high in ((-60, 59), (-60, -60), (59, 59), (0, 59), (-1, 1), (-3, 30)):
        for size in (2, 5, 8):
            for most_terms in (1, 2, 8):
                found.append(draw.rule_set(size, draw.between(size, 24), low, high, most_terms))
    return found + [rules for size in range(1, 9) for _, rules in rings(size)]


def with_greater(rules, i, k, d):
    return rules[0], rules[1] + ((k, ((i, -d - 1),)),)


def plain_greatest_gap(rules, i, k):
    """Return the greatest difference, or None if there is none: asks for ever greater ones, up to what is possible.

    If there is a greatest difference, it is at most the sum of the gains on a way that comes to no variable twice.
    """
    size, listed = rules
    gain = max([0] + [abs(c) for _, terms in listed for _, c in terms]) * size
    d = -gain - 1
    while plainly_feasible(*with_greater(rules, i, k, d)):
        d += 1
        if d > gain:
            return None
    return d


class Examples(unittest.TestCase):
    def test_gap_certificate(self):
        self.assertEqual([gap_certificate(R, 0, 1)[:2], is_gap_certificate(R, 0, 1, GOOD)], [("gap", 3), True])
        self.assertEqual(
            [is_gap_certificate(LEAST, 1, 0, ("open", (0, 0), (1,))), gap_certificate(T, 0, 1)[0]], [True, "refuted"])

    def test_greatest_gap(self):
        self.assertEqual([greatest_gap(R, 2, 0), greatest_gap(R, 1, 0), greatest_gap(LEAST, 1, 0)], [1, -3, None])


class GreatestGap(unittest.TestCase):
    def check(self, rules, i, k):
        """Check the certificate, and return "refuted", None or the greatest difference."""
        certificate = gap_certificate(rules, i, k)
        self.assertTrue(plain_gap(rules, i, k, certificate), (rules, i, k))
        self.assertIs(is_gap_certificate(rules, i, k, certificate), True, (rules, i, k))
        self.assertEqual(gap_certificate(rules, i, k), certificate)
        self.assertEqual(certificate[0] == "refuted", solve(rules)[0] == "refuted")
        if certificate[0] == "refuted":
            with self.assertRaises(Refuted) as caught:
                greatest_gap(rules, i, k)
            self.assertIs(is_refutation(rules, caught.exception.reason), True)
            return "refuted"
        gap = greatest_gap(rules, i, k)
        self.assertEqual(gap, certificate[1] if certificate[0] == "gap" else None)
        return gap

    def test_agrees_with_trying_all_times(self):
        kinds = set()
        for rules in small():
            for i, k in product(range(rules[0]), repeat=2):
                gap = self.check(rules, i, k)
                if gap == "refuted":
                    self.assertFalse(plainly_feasible(*rules))
                else:
                    self.assertEqual(gap, plain_greatest_gap(rules, i, k), (rules, i, k))
                kinds.add(gap if gap in ("refuted", None) else (gap > 0) - (gap < 0))
        self.assertEqual(kinds, {"refuted", None, -1, 0, 1})

    def test_great_rule_sets(self):
        kinds = set()
        for rules in great():
            for i, k in ((0, rules[0] - 1), (rules[0] - 1, 0), (rules[0] // 2, rules[0] // 3), (0, 0)):
                gap = self.check(rules, i, k)
                kinds.add(gap if gap in ("refuted", None) else "gap")
                if gap is None:
                    self.assertNotIn(None, lowered(with_greater(rules, i, k, 500)))
                elif gap != "refuted":
                    self.assertNotIn(None, lowered(with_greater(rules, i, k, gap - 1)))
                    self.assertIn(None, lowered(with_greater(rules, i, k, gap)))
        self.assertEqual(kinds, {"refuted", None, "gap"})

    def test_agrees_with_follows(self):
        for rules in small()[::2]:
            for i, k in product(range(rules[0]), repeat=2):
                gap = self.check(rules, i, k)
                if isinstance(gap, int):
                    self.assertIs(follows(rules, (i, ((k, gap),))), True)
                    self.assertIs(follows(rules, (i, ((k, gap - 1),))), False)

    def test_variable_and_other_the_same(self):
        for rules in (R, (1, ()), (8, ()), LEAST, ring(8, [0] * 8), (1, ((0, ((0, 59),)),))):
            for variable in range(rules[0]):
                self.assertEqual(self.check(rules, variable, variable), 0)
        self.assertIs(is_gap_certificate(R, 0, 0, ("gap", 0, (0, -3, 1), ((0, 3, HUGE),))), True)
        self.assertIs(is_gap_certificate((1, ()), 0, 0, ("gap", 0, (HUGE,), ((0, 0, -HUGE),))), True)
        self.assertIs(is_gap_certificate((1, ()), 0, 0, ("open", (0,), (0,))), False)
        self.assertIs(is_gap_certificate((1, ()), 0, 0, ("open", (0,), ())), False)
        self.assertEqual(self.check((1, ((0, ()),)), 0, 0), "refuted")

    def test_greatest_and_least_differences(self):
        # The chain of all variables, and back from its end: the added rule has a delay beyond the limits.
        for delay in (-60, 59):
            chain = (8, tuple((k, ((k + 1, delay),)) for k in range(7)))
            self.assertEqual(self.check(chain, 0, 7), 7 * delay)
            self.assertIsNone(self.check(chain, 7, 0))
            self.assertEqual(self.check(chain, 2, 4), 2 * delay)
            full = (8, chain[1] + ((0, ((0, 59),)),) * 17)
            self.assertEqual(self.check(full, 0, 7), 7 * delay)
            self.assertIn(24, [triple[1] for triple in gap_certificate(full, 0, 7)[3]])

    def test_all_24_rules_and_one_more(self):
        rules = (8, ((0, ((1, 59),)),) * 24)
        self.assertEqual(self.check(rules, 0, 1), 59)
        self.assertIs(is_gap_certificate(rules, 0, 1, ("gap", 59, (59,) + (0,) * 7, ((0, 23, 119), (1, 24, 0)))), True)
        self.assertIs(is_gap_certificate(rules, 0, 1, ("gap", 59, (59,) + (0,) * 7, ((0, 23, 119), (1, 25, 0)))), False)

    def test_negative_differences(self):
        self.assertEqual(self.check((2, ((0, ((1, -60),)),)), 0, 1), -60)
        self.assertEqual(self.check((3, ((0, ((1, -60),)), (1, ((2, -60),)))), 0, 2), -120)


class IsGapCertificate(unittest.TestCase):
    def test_certificates_with_one_part_changed(self):
        accepted = 0
        for rules, i, k in ((R, 0, 1), (R, 2, 2), (T, 0, 1), (LEAST, 1, 0), (LEAST, 0, 1), (P, 3, 0),
                            (small()[40], 0, 1), (small()[60], 2, 0), (small()[70], 0, 2)):
            for value in variants(gap_certificate(rules, i, k)):
                wanted = plain_gap(rules, i, k, value)
                self.assertIs(is_gap_certificate(rules, i, k, value), wanted, (rules, i, k, value))
                accepted += wanted
        for value in variants(GOOD):
            self.assertIs(is_gap_certificate(R, 0, 1, value), plain_gap(R, 0, 1, value))
        self.assertGreater(accepted, 20)

    def test_all_upper_sets(self):
        accepted = 0
        for rules in small():
            size = rules[0]
            uppers = [chosen for many in range(size + 1) for chosen in combinations(range(size), many)]
            for times in list(product(range(-1, 2), repeat=size))[::2]:
                for upper in uppers:
                    for i, k in ((0, size - 1), (size - 1, 0), (0, 0)):
                        wanted = plain_gap(rules, i, k, ("open", times, upper))
                        self.assertIs(is_gap_certificate(rules, i, k, ("open", times, upper)), wanted)
                        accepted += wanted
        self.assertGreater(accepted, 100)

    def test_upper_set_may_be_raised(self):
        for rules in small():
            for i, k in product(range(rules[0]), repeat=2):
                certificate = gap_certificate(rules, i, k)
                if certificate[0] == "open":
                    for by in (1, 1000, HUGE):
                        times = tuple(entry + by * (j in certificate[2]) for j, entry in enumerate(certificate[1]))
                        self.assertTrue(plain_upper(rules, i, k, times, certificate[2]))
                        self.assertIs(is_gap_certificate(rules, i, k, ("open", times, certificate[2])), True)

    def test_all_numbers_moved(self):
        for by in (1, HUGE, -HUGE, 10 ** 9000):
            self.assertIs(is_gap_certificate(R, 0, 1, ("gap", 3, shifted(GOOD[2], by), moved(GOOD[3], -by))), True)
            self.assertIs(is_gap_certificate(LEAST, 1, 0, ("open", (by, by), (1,))), True)
            self.assertIs(is_gap_certificate(T, 1, 0, ("refuted", moved(((0, 0, 0), (1, 1, 1)), by))), True)

    def test_refutations_of_others(self):
        for rules in small():
            for refutation in all_refutations(rules):
                for i, k in product(range(rules[0]), repeat=2):
                    self.assertIs(is_gap_certificate(rules, i, k, ("refuted", refutation)), True)
            for i, k in product(range(rules[0]), repeat=2):
                certificate = gap_certificate(rules, i, k)
                if certificate[0] == "gap":
                    _, d, times, _ = certificate
                    for refutation in all_refutations(with_greater(rules, i, k, d)):
                        self.assertIs(is_gap_certificate(rules, i, k, ("gap", d, times, refutation)), True)

    def test_wrong_values(self):
        _, _, times, refutation = GOOD
        for value in JUNK + (
            list(GOOD), GOOD[:3], GOOD + (None,), ("gap", 2) + GOOD[2:], ("gap", 4) + GOOD[2:], ("gap", True) + GOOD[2:],
            ("gap", "3") + GOOD[2:], ("gap", None) + GOOD[2:], ("gap", HUGE) + GOOD[2:], (b"gap",) + GOOD[1:],
            ("Gap",) + GOOD[1:], (None,) + GOOD[1:], (["gap"],) + GOOD[1:], ("gap", 3, (0, -3, 2), refutation),
            ("gap", 3, list(times), refutation), ("gap", 3, (0, -3), refutation), ("gap", 3, times, None),
            ("gap", 3, times, ()), ("gap", 3, times, list(refutation)), ("gap", 3, times, refutation[1:]),
            ("gap", 3, None, refutation), ("gap", 3, (0, -3, None), refutation), ("refuted", refutation),
            ("refuted", refutation[:1]), ("open", times, (0,)), ("open", times, (0, 2)), ("open", times, ()),
            ("open", times, None), ("open", times, (0, 1, 2)), ("open", times), ("open",), ("refuted",), ("gap",),
            ("gap", 0, times, refutation), ("refuted", None), ("times", times), ("gap", 3, refutation, times),
        ):
            with self.subTest(shown(value)):
                self.assertIs(is_gap_certificate(R, 0, 1, value), False)

    def test_wrong_upper_sets(self):
        for upper in JUNK + ([1], (True,), ("1",), (None,), (1, 1), (2,), (-1,), (0, 1), (0,), (1, 2), {1: 1}, 1, (1, HUGE)):
            with self.subTest(shown(upper)):
                self.assertIs(is_gap_certificate(LEAST, 1, 0, ("open", (0, 0), upper)), False)
        self.assertIs(is_gap_certificate((3, LEAST[1]), 1, 0, ("open", (0, 0, 0), (1, 2))), True)
        self.assertIs(is_gap_certificate((3, LEAST[1]), 1, 0, ("open", (0, 0, 0), (2, 1))), False)

    def test_those_of_other_arguments(self):
        self.assertIs(is_gap_certificate(R, 1, 0, GOOD), False)
        self.assertIs(is_gap_certificate(R, 0, 2, GOOD), False)
        self.assertIs(is_gap_certificate((3, R[1][:2]), 0, 1, GOOD), False)
        self.assertIs(is_gap_certificate((3, ()), 0, 1, GOOD), False)


class Errors(unittest.TestCase):
    def test_wrong_rules_come_first(self):
        for wrong in BAD_RULE_SETS + NO_INTEGERS:
            with self.subTest(shown(wrong)):
                self.assertRaises(InvalidRules, gap_certificate, wrong, None, None)
                self.assertRaises(InvalidRules, greatest_gap, wrong, None, None)
                self.assertRaises(InvalidRules, is_gap_certificate, wrong, None, None, None)

    def test_then_wrong_variables(self):
        for wrong in BAD_VARIABLES:
            for variable, other in ((wrong, -7), (0, wrong)):
                for call in (lambda: gap_certificate(R, variable, other), lambda: greatest_gap(R, variable, other),
                             lambda: is_gap_certificate(R, variable, other, GOOD)):
                    with self.subTest(shown(wrong)), self.assertRaises(UnknownVariable) as caught:
                        call()
                    self.assertIs(caught.exception.variable, wrong)
        self.assertRaises(UnknownVariable, greatest_gap, T, 0, 2)

    def test_arguments_stay(self):
        for value in (["gap", 3, [0]], ("gap", 3, [0], {}), nested(40)):
            before = copy.deepcopy(value)
            self.assertIs(is_gap_certificate(R, 0, 1, value), False)
            self.assertRaises(UnknownVariable, gap_certificate, R, value, 0)
            self.assertEqual(value, before)


class Quick(unittest.TestCase):
    def test_eight_variables_and_24_rules(self):
        draw = Draw(25)
        sets = [draw.rule_set(8, 24, low, high) for low, high in ((-60, 59), (0, 59), (-60, -60), (59, 59), (-1, 1))
                for _ in range(20)]
        start = time.process_time()
        for rules in sets:
            self.assertIs(is_gap_certificate(rules, 0, 7, gap_certificate(rules, 0, 7)), True)
        self.assertLess(time.process_time() - start, 0.01 * len(sets))


if __name__ == "__main__":
    unittest.main()
