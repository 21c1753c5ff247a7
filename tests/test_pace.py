import copy
import time
import unittest
from fractions import Fraction
from itertools import permutations, product

from latestof.errors import InvalidRules, TooLarge
from latestof.pace import pace as module
from latestof.pace.pace import is_pace_certificate, pace, pace_certificate
from latestof.rules.times import shifted
from latestof.solve.solver import solve
from tests.plain import goes_at, plain_order, plain_pace, plain_pace_certificate
from tests.support import (
    BAD_RULE_SETS, HUGE, JUNK, NO_INTEGERS, R, T, Draw, all_refutations, moved, nested, ring, shown, variants,
)

GOOD = ("pace", (1, 2), (0, 1), ((0, 0, 0), (1, 1, 1)))
CHAIN = (2, ((0, ((1, -5),)),))


def small():
    draw = Draw(37)
    found = [(size, ()) for size in (1, 2, 3)] + [T, R, CHAIN]
    for size, many, low, high in ((1, 2, -12, 11), (2, 3, -3, 2), (2, 4, -12, 11), (3, 5, -3, 3), (3, 6, -12, 11),
                                  (4, 6, -4, 3), (4, 9, -12, 11)):
        found += [draw.rule_set(size, draw.between(1, many), low, high, draw.between(1, 3)) for _ in range(12)]
    return found


def great():
    draw = Draw(38)
    found = [(8, ())]
    for low, high in ((-12, 11), (-12, -12), (11, 11), (-12, 0), (0, 11), (-1, 1)):
        for size in (1, 2, 5, 7, 8):
            for most_terms in (1, 2, 8):
                found.append(draw.rule_set(size, draw.between(size, 24), low, high, most_terms))
    return found


def refutable_below(rules, p, q):
    """Return whether the rules do not go at a fraction that is a little less than p / q."""
    return not goes_at(rules, Fraction(p, q) - Fraction(1, 1000))


class Examples(unittest.TestCase):
    def test_pace_certificate(self):
        self.assertEqual([pace_certificate(T)[:2], is_pace_certificate(T, GOOD)], [("pace", (1, 2)), True])
        self.assertEqual(
            [pace_certificate(R)[:2], is_pace_certificate((2, ((0, ((1, -5),)),)), ("free", (1, 0))),
             pace_certificate((1, ((0, ()),)))], [("pace", (0, 1)), True, ("never", 0)])

    def test_pace(self):
        self.assertEqual(
            [pace(T), pace((2, ((0, ((1, -5),)),))), pace((1, ((0, ()),)))], [(1, 2), "free", "never"])

    def test_constant(self):
        self.assertEqual(module.MAX_PACE_DELAY, 12)


class Pace(unittest.TestCase):
    def check(self, rules):
        """Check the certificate and return the pace or the word."""
        certificate = pace_certificate(rules)
        self.assertTrue(plain_pace_certificate(rules, certificate), (rules, certificate))
        self.assertIs(is_pace_certificate(rules, certificate), True, rules)
        self.assertEqual(pace_certificate(rules), certificate)
        wanted = certificate[1] if certificate[0] == "pace" else certificate[0]
        self.assertEqual(pace(rules), wanted)
        return wanted

    def test_agrees_with_trying_all_orders_and_fractions(self):
        kinds = set()
        for rules in small():
            found = self.check(rules)
            self.assertEqual(found, plain_pace(rules), rules)
            kinds.add(found if isinstance(found, str) else (found[0] > 0) - (found[0] < 0))
        self.assertEqual(kinds, {"never", "free", -1, 0, 1})

    def test_great_rule_sets(self):
        kinds = set()
        for rules in great():
            found = self.check(rules)
            kinds.add(found if isinstance(found, str) else "pace")
            if isinstance(found, tuple):
                self.assertTrue(1 <= found[1] <= rules[0])
                self.assertTrue(goes_at(rules, Fraction(*found)))
                self.assertTrue(refutable_below(rules, *found))
            else:
                for fraction in (-1000, 0, 1000):
                    self.assertEqual(goes_at(rules, Fraction(fraction)), found == "free")
        self.assertEqual(kinds, {"never", "free", "pace"})

    def test_each_denominator_up_to_the_size(self):
        for size in range(1, 9):
            for q in range(1, size + 1):
                for p in (-11 * q + 1, -5 * q - 1, -1, 0, 1, 5 * q + 1, 12 * q - 1):
                    # A ring of q variables whose delays have the sum -p; the others need the first one.
                    delays = [(-p + k) // q for k in range(q)]
                    self.assertEqual(sum(delays), -p)
                    rules = (size, ring(q, delays)[1] + tuple((k, ((0, -12),)) for k in range(q, size)))
                    found = Fraction(p, q)
                    self.assertEqual(self.check(rules), (found.numerator, found.denominator))

    def test_greatest_and_least_paces(self):
        for size in (1, 2, 8):
            self.assertEqual(self.check(ring(size, (-12,) * size)), (12, 1))
            self.assertEqual(self.check(ring(size, (11,) * size)), (-11, 1))
            everything = tuple((j, tuple((k, 11 - k) for k in range(size))) for j in range(size))
            self.assertEqual(self.check((size, everything)), (-11, 1))
        self.assertEqual(self.check((2, ((0, ((0, -3),)), (1, ((0, 11), (1, -3)))))), (3, 1))
        self.assertEqual(self.check((2, ((0, ((0, -3),)), (1, ((1, 11),))))), (3, 1))

    def test_slower_rules_count(self):
        # Of several rules of a variable that with the worst way counts, of several terms the best one.
        rules = (3, ((0, ((1, 3), (2, -1))), (1, ((0, -4),)), (0, ((2, 2),)), (2, ((0, -5), (1, 0)))))
        self.assertEqual(self.check(rules), plain_pace(rules))
        self.assertEqual(self.check((1, ((0, ((0, 5),)), (0, ((0, -2),)), (0, ((0, 11),))))), (2, 1))

    def test_never_exactly_if_a_rule_has_no_terms(self):
        for rules in small() + great():
            self.assertEqual(pace(rules) == "never", any(not terms for _, terms in rules[1]))
        rules = (3, T[1] + ((2, ()), (1, ())))
        self.assertIn(pace_certificate(rules), (("never", 3), ("never", 4)))
        self.assertEqual([is_pace_certificate(rules, ("never", k)) for k in range(-1, 6)], [False] * 4 + [True] * 2 + [False])

    def test_own_terms_do_not_stand_earlier(self):
        self.assertEqual(self.check((1, ((0, ((0, 11),)),))), (-11, 1))
        self.assertEqual(self.check((2, ((0, ((0, 11), (1, -12))),))), "free")

    def test_paces_of_0_are_feasible_rule_sets(self):
        for rules in small() + great():
            found = pace(rules)
            feasible = found == "free" or isinstance(found, tuple) and found[0] <= 0
            self.assertEqual(solve(rules)[0] == "times", feasible)


class IsPaceCertificate(unittest.TestCase):
    def test_certificates_with_one_part_changed(self):
        accepted = 0
        for rules in small()[::4]:
            for value in variants(pace_certificate(rules)):
                wanted = plain_pace_certificate(rules, value)
                self.assertIs(is_pace_certificate(rules, value), wanted, (rules, value))
                accepted += wanted
        for value in variants(GOOD):
            self.assertIs(is_pace_certificate(T, value), plain_pace_certificate(T, value))
        self.assertGreater(accepted, 50)

    def test_all_orders(self):
        for rules in small() + great():
            if rules[0] <= 4:
                for order in permutations(range(rules[0])):
                    self.assertEqual(is_pace_certificate(rules, ("free", order)), plain_order(rules, order))

    def test_low_parts_of_others(self):
        tried = 0
        for rules in small():
            certificate = pace_certificate(rules)
            if certificate[0] != "pace":
                continue
            _, (p, q), times, _ = certificate
            for low in all_refutations(rules, q, p):
                for by in (0, 3, HUGE, -HUGE):
                    self.assertIs(is_pace_certificate(rules, ("pace", (p, q), shifted(times, -by), moved(low, by))), True)
                tried += 1
        self.assertGreater(tried, 30)

    def test_only_one_fraction_is_accepted(self):
        for rules in small()[3::7]:
            found = pace(rules)
            certificate = pace_certificate(rules)
            for p, q in product(range(-8, 9), (-1, 0, 1, 2, 3)):
                wanted = (p, q) == found
                if certificate[0] == "pace":
                    self.assertIs(is_pace_certificate(rules, ("pace", (p, q)) + certificate[2:]), wanted)
                for low in all_refutations(rules, q, p):
                    value = ("pace", (p, q), (0,) * rules[0], low)
                    self.assertIs(is_pace_certificate(rules, value), plain_pace_certificate(rules, value))

    def test_fractions_in_lowest_terms_only(self):
        self.assertIs(is_pace_certificate(T, ("pace", (2, 4), (0, 2), ((0, 0, 0), (1, 1, 2)))), False)
        self.assertIs(is_pace_certificate(T, ("pace", (-1, -2), (0, -1), ((0, 0, 1), (1, 1, 0)))), False)
        zero = (1, ((0, ((0, 0),)),))
        self.assertIs(is_pace_certificate(zero, ("pace", (0, 1), (5,), ((0, 0, HUGE),))), True)
        self.assertIs(is_pace_certificate(zero, ("pace", (0, 2), (5,), ((0, 0, HUGE),))), False)
        self.assertIs(is_pace_certificate(zero, ("pace", (0, 0), (5,), ((0, 0, HUGE),))), False)
        self.assertIs(is_pace_certificate(zero, ("pace", (0, -1), (5,), ((0, 0, HUGE),))), False)
        self.assertIs(is_pace_certificate(zero, ("pace", (False, 1), (5,), ((0, 0, HUGE),))), False)
        self.assertIs(is_pace_certificate(zero, ("pace", (0, True), (5,), ((0, 0, HUGE),))), False)
        self.assertIs(is_pace_certificate(zero, ("pace", (HUGE, HUGE), (5,), ((0, 0, HUGE),))), False)

    def test_wrong_values(self):
        _, fraction, times, low = GOOD
        for value in JUNK + (
            list(GOOD), GOOD[:3], GOOD + (None,), (b"pace",) + GOOD[1:], ("Pace",) + GOOD[1:], (None,) + GOOD[1:],
            ("pace", [1, 2], times, low), ("pace", (1, 2, 1), times, low), ("pace", (1,), times, low),
            ("pace", "12", times, low), ("pace", None, times, low), ("pace", (1, "2"), times, low),
            ("pace", (True, 2), times, low), ("pace", (1, 2), [0, 1], low), ("pace", (1, 2), (0, True), low),
            ("pace", (1, 2), (0,), low), ("pace", (1, 2), (0, 0), low), ("pace", (1, 2), (0, 2), low),
            ("pace", (1, 2), None, low), ("pace", (1, 2), times, None), ("pace", (1, 2), times, ()),
            ("pace", (1, 2), times, list(low)), ("pace", (1, 2), times, low[:1]), ("pace", (1, 2), times, low[::-1]),
            ("pace", (1, 2), times, ((0, 0, 0), (1, 1, 0))), ("pace", (1, 2), times, ((0, 0, 0), (1, 2, 5))),
            ("pace", (1, 2), times, ((0, 0, False), (1, 1, 1))), ("pace", (1, 2), times, (None, (1, 1, 1))),
            ("pace", (1, 2), times, ((0, 1, 0), (1, 1, 1))), ("pace", (1, 2), times, ((0, 0, 0), (1, 3, 1))),
            ("free", (0, 1)), ("free", (1, 0)), ("free", ()), ("never", 0), ("never", 1), ("never", None), ("never",),
            ("free",), ("pace",), ("pace", (1, 2)), ("times", times), "pace", "free", "never", (1, 2),
        ):
            with self.subTest(shown(value)):
                self.assertIs(is_pace_certificate(T, value), False)

    def test_wrong_orders(self):
        for order in JUNK + ([1, 0], (1,), (1, 0, 0), (1, 1), (0, 1), (True, 0), (1, False), (1, 2), (1, -2), ("1", 0),
                             (1, None), {1: 0}, "10", b"\x01\x00", (1, 0, 2), (HUGE, 0)):
            with self.subTest(shown(order)):
                self.assertIs(is_pace_certificate(CHAIN, ("free", order)), False)
        self.assertIs(is_pace_certificate(CHAIN, ("free", (1, 0))), True)
        self.assertIs(is_pace_certificate((1, ()), ("free", (0,))), True)

    def test_wrong_indices(self):
        rules = (2, ((0, ((1, 0),)), (1, ())))
        for index in NO_INTEGERS + (0, 2, -1, HUGE, -HUGE, (1,), "1"):
            with self.subTest(shown(index)):
                self.assertIs(is_pace_certificate(rules, ("never", index)), False)
        self.assertIs(is_pace_certificate(rules, ("never", 1)), True)


class Errors(unittest.TestCase):
    FUNCTIONS = (pace, pace_certificate, lambda rules: is_pace_certificate(rules, None))

    def test_wrong_rules_come_first(self):
        for function in self.FUNCTIONS:
            for wrong in BAD_RULE_SETS + NO_INTEGERS + ((2, ((0, ((1, 59),)), (1, ((0, 60),)))),):
                with self.subTest(shown(wrong)):
                    self.assertRaises(InvalidRules, function, wrong)

    def test_delays_at_the_limits_and_one_beyond(self):
        for function in self.FUNCTIONS:
            for delay in (-12, 11):
                function((2, ((0, ((1, delay),)), (1, ((0, delay), (1, 0))))))
            for delay in (-60, -13, 12, 59):
                for rules in ((2, ((0, ((1, delay),)),)), (2, ((1, ()), (0, ((0, 0), (1, delay))))),
                              (8, ((7, ((7, delay),)),))):
                    with self.assertRaises(TooLarge) as caught:
                        function(rules)
                    self.assertEqual(caught.exception.limit, 12)

    def test_arguments_stay(self):
        for value in (["pace", [1, 2]], ("pace", [1], {}, [[]]), nested(40)):
            before = copy.deepcopy(value)
            self.assertIs(is_pace_certificate(T, value), False)
            self.assertRaises(InvalidRules, pace, value)
            self.assertEqual(value, before)


class Quick(unittest.TestCase):
    def test_eight_variables_and_24_rules(self):
        draw = Draw(39)
        sets = []
        for low, high in ((-12, 11), (-12, -12), (11, 11), (-12, 0), (-1, 0)):
            for most_terms in (2, 3, 8):
                for _ in range(8):
                    size, listed = draw.rule_set(8, 24, low, high, most_terms)
                    sets.append((size, tuple((left, terms or ((7, low),)) for left, terms in listed)))
        start = time.process_time()
        for rules in sets:
            self.assertIs(is_pace_certificate(rules, pace_certificate(rules)), True)
        self.assertLess(time.process_time() - start, 0.02 * len(sets))


if __name__ == "__main__":
    unittest.main()
