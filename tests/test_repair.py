import copy
import time
import unittest
from fractions import Fraction
from itertools import combinations

from latestof.errors import InvalidNumber, InvalidRules, Refuted, TooLarge
from latestof.pace.pace import pace
from latestof.pace.repair import (
    is_least_allowance, is_repair_certificate, least_allowance, repair_certificate, repairs,
)
from latestof.rules.rules import with_delay
from latestof.rules.times import is_solution, shifted
from latestof.solve.cores import all_cores
from latestof.solve.solver import is_refutation, solve
from tests.plain import all_hold, goes_at, is_row, plain_indices, plain_refutation, plain_times, scaled
from tests.support import (
    BAD_RULE_SETS, HUGE, JUNK, NO_INTEGERS, R, T, Draw, all_refutations, lowered, moved, nested, ring, shown, variants,
)

TIGHT = (1, (0, 0), ((0, 0, 0), (1, 1, 1)))
REPAIR = ((0,), (0, 0), (((0, 0, 0), (1, 1, 1)),))
# Each ring of three rules must lose one of them.
MANY = (6, tuple((k + by, ((k + (by + 1) % 3, -1),)) for k in (0, 3) for by in range(3)) + ((0, ((3, 0),)), (3, ((0, -1),))))
# None of these is an ascending tuple of indices of two rules.
BAD_KEEPS = NO_INTEGERS[:-6] + (
    [], [0], {}, {0: 1}, 0, 1, -1, HUGE, (2,), (-1,), (0, 2), (1, 0), (0, 0), (True,), (0, True), (False, 1), (None,),
    ("0",), (HUGE,), ((0,),), ([0],), (0, (1,)), (b"\x00",), nested(39), (0, 1, 2),
)


def feasible(rules, indices):
    size, listed = rules
    return None not in lowered((size, tuple(listed[k] for k in indices)))


def plain_allowance(rules, value):
    size, listed = rules
    if not is_row(value, 3) or type(value[0]) is not int or not plain_times(size, value[1]):
        return False
    return all_hold(scaled(rules, value[0], 1)[1], value[1]) and plain_refutation(scaled(rules, value[0] - 1, 1), value[2])


def plain_repair(rules, value, keep=()):
    size, listed = rules
    if not is_row(value, 3) or not plain_indices(len(listed), value[0]) or set(value[0]) & set(keep):
        return False
    dropped, times, refutations = value
    rest = [k for k in range(len(listed)) if k not in dropped]
    if not plain_times(size, times) or not all_hold([listed[k] for k in rest], times):
        return False
    if not is_row(refutations, len(dropped)):
        return False
    return all(plain_refutation(rules, refutation) and {triple[1] for triple in refutation} <= {*rest, index}
               for index, refutation in zip(dropped, refutations))


def plain_repairs(rules, keep):
    """Return all repairs without rules of keep: looks at every set of the other rules."""
    every = range(len(rules[1]))
    usable = [k for k in every if k not in keep]
    found = []
    for many in range(len(usable) + 1):
        for dropped in combinations(usable, many):
            if any(set(less) <= set(dropped) for less in found):
                continue
            if feasible(rules, [k for k in every if k not in dropped]):
                found.append(dropped)
    return sorted(found)


def small():
    draw = Draw(71)
    found = [(1, ()), (8, ()), T, R, MANY]
    for size, many, low, high in ((1, 4, -3, 2), (2, 6, -3, 2), (2, 8, -60, 59), (3, 8, -3, 1), (4, 8, -12, 6), (4, 8, -1, -1)):
        found += [draw.rule_set(size, draw.between(1, many), low, high, draw.between(1, 3)) for _ in range(14)]
    return found


def with_terms(rules):
    """Return the rule set with a term for each rule, and delays from -12 to 11."""
    size, listed = rules
    fitted = tuple((left, tuple((j, max(-12, min(11, c))) for j, c in terms) or ((0, -1),)) for left, terms in listed)
    return size, fitted


def great():
    draw = Draw(72)
    return [draw.rule_set(8, 24, low, high, most) for low, high in ((-60, 59), (-60, -60), (59, 59), (-60, -1), (-1, 1))
            for most in (1, 2, 8) for _ in range(4)]


class Examples(unittest.TestCase):
    def test_least_allowance(self):
        self.assertEqual(
            [least_allowance(T)[0], is_least_allowance(T, TIGHT), least_allowance((2, ((0, ((1, -5),)),)))],
            [1, True, None])
        self.assertRaises(Refuted, least_allowance, (2, ((0, ((1, 0),)), (1, ()))))

    def test_repair_certificate(self):
        self.assertIs(is_repair_certificate(T, REPAIR), True)
        self.assertEqual([repair_certificate(T, keep=(0,))[0], repair_certificate(R)[0]], [(1,), ()])
        self.assertRaises(Refuted, repair_certificate, T, keep=(0, 1))

    def test_repairs(self):
        self.assertEqual([list(repairs(T)), list(repairs(T, keep=(0,))), list(repairs(R))], [[(0,), (1,)], [(1,)], [()]])


class LeastAllowance(unittest.TestCase):
    def test_agrees_with_pace_and_solve(self):
        kinds = set()
        for rules in [with_terms(rules) for rules in small() + great()]:
            found = least_allowance(rules)
            slowest = pace(rules)
            kinds.add(type(slowest))
            if slowest == "free":
                self.assertIsNone(found)
                for amount in (-48, 0, 48):
                    self.assertEqual(solve(with_delay(rules, amount))[0], "times")
                continue
            least, times, refutation = found
            self.assertEqual(least, -((-Fraction(*slowest)) // 1))
            self.assertTrue(plain_allowance(rules, found), (rules, found))
            self.assertIs(is_least_allowance(rules, found), True)
            self.assertTrue(goes_at(rules, Fraction(least)))
            self.assertFalse(goes_at(rules, Fraction(least - 1)))
            self.assertEqual(solve(with_delay(rules, least))[0], "times")
            self.assertEqual(solve(with_delay(rules, least - 1))[0], "refuted")
            self.assertEqual(least_allowance(rules), found)
        self.assertEqual(kinds, {str, tuple})

    def test_fractions_are_rounded_up(self):
        for size in (2, 3, 8):
            for total in range(-3 * size, 3 * size + 1):
                delays = [(total + k) // size for k in range(size)]
                self.assertEqual(sum(delays), total)
                self.assertEqual(least_allowance(ring(size, delays))[0], -(total // size))

    def test_greatest_and_least(self):
        for size in (1, 2, 8):
            self.assertEqual(least_allowance(ring(size, (-12,) * size))[0], 12)
            self.assertEqual(least_allowance(ring(size, (11,) * size))[0], -11)
            self.assertIsNone(least_allowance((size, ())))

    def test_rules_without_terms(self):
        for rules, wanted in (((1, ((0, ()),)), {0}), ((3, R[1] + ((2, ()), (1, ()))), {3, 4}), ((8, ((7, ()),)), {0})):
            with self.assertRaises(Refuted) as caught:
                least_allowance(rules)
            reason = caught.exception.reason
            self.assertEqual(len(reason), 1)
            self.assertTrue(plain_refutation(rules, reason))
            self.assertIn(reason[0][1], wanted)
            self.assertIs(is_least_allowance(rules, (0, (0,) * rules[0], reason)), False)

    def test_errors_in_order(self):
        for delay in (-12, 11):
            self.assertIsNone(least_allowance((2, ((0, ((1, delay),)),))))
        for delay in (-60, -13, 12, 59):
            for rules in ((2, ((0, ((1, delay),)),)), (1, ((0, ((0, delay),)),)), (8, ((7, ((0, 0), (7, delay))),))):
                with self.assertRaises(TooLarge) as caught:
                    least_allowance(rules)
                self.assertEqual(caught.exception.limit, 12)
            self.assertRaises(Refuted, least_allowance, (2, ((0, ((1, delay),)), (1, ()))))
        for wrong in BAD_RULE_SETS + ((2, ((0, ()), (0, ((0, 60),)))),):
            with self.subTest(shown(wrong)):
                self.assertRaises(InvalidRules, least_allowance, wrong)
                self.assertRaises(InvalidRules, is_least_allowance, wrong, TIGHT)


class IsLeastAllowance(unittest.TestCase):
    def test_certificates_with_one_part_changed(self):
        accepted = 0
        for rules in [T] + [with_terms(rules) for rules in small()[4::3]]:
            certificate = least_allowance(rules)
            for value in variants(certificate or TIGHT):
                wanted = plain_allowance(rules, value)
                self.assertIs(is_least_allowance(rules, value), wanted, (rules, value))
                accepted += wanted
        self.assertGreater(accepted, 30)

    def test_certificates_of_others(self):
        tried = 0
        for rules in [with_terms(rules) for rules in small()]:
            found = least_allowance(rules)
            if found is None:
                continue
            least, times, _ = found
            for refutation in all_refutations(scaled(rules, least - 1, 1)):
                tried += 1
                for by in (0, 5, HUGE, -HUGE):
                    self.assertIs(is_least_allowance(rules, (least, shifted(times, -by), moved(refutation, by))), True)
                for other in (least - 1, least + 1, least + HUGE, least - HUGE):
                    self.assertIs(is_least_allowance(rules, (other, times, refutation)), False)
        self.assertGreater(tried, 60)

    def test_delays_beyond_the_limit_of_least_allowance(self):
        for delay in (-60, -13, 12, 59):
            rules = (1, ((0, ((0, delay),)),))
            for t in range(-61, 62):
                self.assertIs(is_least_allowance(rules, (t, (HUGE,), ((0, 0, -HUGE),))), t == -delay)

    def test_wrong_values(self):
        least, times, refutation = TIGHT
        for value in JUNK + (
            list(TIGHT), TIGHT[:2], TIGHT + (None,), (True, times, refutation), (None, times, refutation),
            ("1", times, refutation), ((1,), times, refutation), (0, times, refutation), (2, times, refutation),
            (least, list(times), refutation), (least, (0,), refutation), (least, (0, False), refutation),
            (least, None, refutation), (least, (0, 2), refutation), (least, times, None), (least, times, ()),
            (least, times, list(refutation)), (least, times, refutation[:1]), (least, times, refutation[::-1]),
            (least, times, ((0, 0, 0), (1, 1, 0))), (least, times, ((0, 0, 0), (1, 2, 9))), None, (1, 2), "pace",
        ):
            with self.subTest(shown(value)):
                self.assertIs(is_least_allowance(T, value), False)


class Repairs(unittest.TestCase):
    def test_agrees_with_every_set_of_rules(self):
        many = 0
        for place, rules in enumerate(small()):
            every = range(len(rules[1]))
            for keep in {(), tuple(every)[:1], tuple(every)[-2:], tuple(every), tuple(k for k in every if k % 3 == place % 3)}:
                if not feasible(rules, keep):
                    self.check_refuted(rules, keep)
                    continue
                wanted = plain_repairs(rules, keep)
                self.assertEqual(list(repairs(rules, keep=keep)), wanted, (rules, keep))
                self.assertIn(self.check_certificate(rules, keep)[0], wanted)
                many = max(many, len(wanted))
        self.assertGreater(many, 5)

    def check_certificate(self, rules, keep=()):
        value = repair_certificate(rules, keep=keep)
        self.assertTrue(plain_repair(rules, value, keep), (rules, keep, value))
        self.assertIs(is_repair_certificate(rules, value, keep=keep), True)
        self.assertEqual(repair_certificate(rules, keep=keep), value)
        return value

    def check_refuted(self, rules, keep):
        for function in (repair_certificate, lambda rules, keep: list(repairs(rules, keep=keep))):
            with self.assertRaises(Refuted) as caught:
                function(rules, keep=keep)
            reason = caught.exception.reason
            self.assertTrue(plain_refutation(rules, reason), (rules, keep, reason))
            self.assertLessEqual({triple[1] for triple in reason}, set(keep))

    def test_are_the_least_sets_with_a_rule_of_each_core(self):
        for rules in small():
            cores = [set(core) for core in all_cores(rules)]
            every = range(len(rules[1]))
            hitting = [set(some) for many in range(len(rules[1]) + 1) for some in combinations(every, many)
                       if all(core & set(some) for core in cores)]
            wanted = sorted(tuple(sorted(some)) for some in hitting if not any(other < some for other in hitting))
            self.assertEqual(list(repairs(rules)), wanted, rules)

    def test_great_rule_sets(self):
        draw = Draw(73)
        for rules in great():
            self.check_certificate(rules) if feasible(rules, ()) else self.check_refuted(rules, ())
            keep = tuple(k for k in range(24) if draw.below(3) == 0)
            self.check_certificate(rules, keep) if feasible(rules, keep) else self.check_refuted(rules, keep)

    def test_at_most_twelve_rules_not_in_keep(self):
        for many, kept, fits in ((12, 0, True), (13, 0, False), (13, 1, True), (24, 12, True), (24, 11, False),
                                 (24, 24, True), (0, 0, True), (24, 0, False)):
            rules = (8, ((0, ((1, 0),)), (1, ((0, 0),)), (2, ((3, -1),))) * 8)
            rules = (8, rules[1][:many])
            for keep in (tuple(range(kept)), tuple(range(many - kept, many))):
                if fits:
                    self.assertEqual(list(repairs(rules, keep=keep)), [()])
                else:
                    with self.assertRaises(TooLarge) as caught:
                        list(repairs(rules, keep=keep))
                    self.assertEqual(caught.exception.limit, 12)

    def test_refuted_comes_before_too_large(self):
        rules = (2, T[1][:2] + ((0, ((1, 0),)),) * 20)
        self.check_refuted(rules, (0, 1))
        self.assertRaises(TooLarge, list, repairs(rules, keep=(0,)))
        self.check_refuted((1, ((0, ()),) * 24), (23,))

    def test_each_rule_of_a_pair_can_be_dropped(self):
        pairs = tuple(rule for k in (0, 2, 4, 6) for rule in ((k, ((k + 1, -1),)), (k + 1, ((k, 0),))))
        found = list(repairs((8, pairs)))
        self.assertEqual(found, sorted(tuple(sorted(2 * k + side for k, side in enumerate(sides)))
                                       for sides in [(a, b, c, d) for a in (0, 1) for b in (0, 1) for c in (0, 1)
                                                     for d in (0, 1)]))
        self.assertEqual(list(repairs((8, pairs), keep=(0, 3, 4, 7))), [(1, 2, 5, 6)])

    def test_rules_without_terms_are_always_dropped(self):
        rules = (2, ((0, ()),) + T[1] + ((1, ()),))
        self.assertEqual(list(repairs(rules)), [(0, 1, 4), (0, 2, 4)])
        self.assertEqual(list(repairs(rules, keep=(2,))), [(0, 1, 4)])
        self.check_refuted(rules, (4,))


class IsRepairCertificate(unittest.TestCase):
    def test_certificates_with_one_part_changed(self):
        accepted = 0
        for rules in [T, R] + small()[5::4]:
            value = repair_certificate(rules)
            for other in [value] + variants(value):
                for keep in ((), (0,), tuple(range(len(rules[1])))):
                    if len(rules[1]) > max(keep, default=-1):
                        wanted = plain_repair(rules, other, keep)
                        self.assertIs(is_repair_certificate(rules, other, keep=keep), wanted, (rules, other, keep))
                        accepted += wanted
        self.assertGreater(accepted, 50)

    def test_certificates_of_others(self):
        tried = 0
        for rules in small():
            refutations = list(all_refutations(rules)) if rules[0] <= 3 else []
            for dropped in repairs(rules):
                rest = [k for k in range(len(rules[1])) if k not in dropped]
                times = lowered((rules[0], tuple(rules[1][k] for k in rest)))
                fitting = [[value for value in refutations if {triple[1] for triple in value} <= {*rest, index}]
                           for index in dropped]
                if not all(fitting):
                    continue
                for by in (0, HUGE):
                    value = (dropped, shifted(times, by), tuple(moved(choice[tried % len(choice)], by) for choice in fitting))
                    self.assertIs(is_repair_certificate(rules, value), True)
                    for keep in [(k,) for k in range(len(rules[1]))]:
                        self.assertIs(is_repair_certificate(rules, value, keep=keep), keep[0] not in dropped)
                tried += 1
        self.assertGreater(tried, 50)

    def test_sets_that_are_no_repairs(self):
        for rules in small()[::3]:
            good = set(repairs(rules))
            refutations = tuple(all_refutations(rules))[:4] if rules[0] <= 2 else ()
            for many in range(len(rules[1]) + 1):
                for dropped in list(combinations(range(len(rules[1])), many))[:30]:
                    for refutation in refutations:
                        value = (dropped, solve_without(rules, dropped), (refutation,) * many)
                        found = is_repair_certificate(rules, value)
                        self.assertIs(found, plain_repair(rules, value))
                        self.assertTrue(not found or dropped in good)

    def test_refutation_with_another_dropped_rule(self):
        # Each of the last two rules contradicts the first one; both have to be dropped.
        rules = (2, ((0, ((1, -1),)), (1, ((0, 0),)), (1, ((0, 0),))))
        one, other = ((0, 0, 0), (1, 1, 1)), ((0, 0, 0), (1, 2, 1))
        self.assertIs(is_repair_certificate(rules, ((1, 2), (0, 1), (one, other))), True)
        self.assertIs(is_repair_certificate(rules, ((1, 2), (0, 1), (other, one))), False)
        self.assertIs(is_repair_certificate(rules, ((1, 2), (0, 1), (one, one))), False)
        self.assertIs(is_repair_certificate(rules, ((0,), (0, 0), (one,))), True)
        self.assertIs(is_repair_certificate(rules, ((0, 1), (0, 0), (one, one))), False)

    def test_wrong_values(self):
        dropped, times, refutations = REPAIR
        for value in JUNK + (
            list(REPAIR), REPAIR[:2], REPAIR + (None,), ([0], times, refutations), (0, times, refutations),
            (None, times, refutations), ((True,), times, refutations), ((False,), times, refutations),
            ((3,), times, refutations), ((-1,), times, refutations), ((0, 0), times, refutations * 2),
            ((1, 0), times, refutations * 2), ((), times, ()), ((0,), (0,), refutations), ((0,), (0, 1), refutations),
            ((0,), [0, 0], refutations), ((0,), (0, True), refutations), ((0,), None, refutations),
            (dropped, times, ()), (dropped, times, refutations * 2), (dropped, times, list(refutations)),
            (dropped, times, (None,)), (dropped, times, ((),)), (dropped, times, refutations[0]),
            (dropped, times, (list(refutations[0]),)), (dropped, times, (((0, 0, 0), (1, 2, 9)),)), (HUGE, times, ()),
        ):
            with self.subTest(shown(value)):
                self.assertIs(is_repair_certificate(T, value), False)


def solve_without(rules, dropped):
    word, found = solve((rules[0], tuple(rule for k, rule in enumerate(rules[1]) if k not in dropped)))
    return found if word == "times" else (0,) * rules[0]


class Errors(unittest.TestCase):
    def call_all(self, rules, **more):
        return (lambda: repair_certificate(rules, **more), lambda: is_repair_certificate(rules, REPAIR, **more),
                lambda: list(repairs(rules, **more)))

    def test_wrong_rules_come_first(self):
        for wrong in BAD_RULE_SETS:
            for keep in ((), [0]):
                for call in self.call_all(wrong, keep=keep):
                    with self.subTest(shown(wrong)):
                        self.assertRaises(InvalidRules, call)

    def test_wrong_keep_comes_before_refuted(self):
        rules = (2, T[1][:2])
        for keep in BAD_KEEPS:
            for call in self.call_all(rules, keep=keep):
                with self.subTest(shown(keep)):
                    with self.assertRaises(InvalidNumber) as caught:
                        call()
                    self.assertIs(caught.exception.value, keep)
        self.assertRaises(Refuted, repair_certificate, rules, keep=(0, 1))

    def test_keep_is_passed_by_keyword(self):
        for function in (repair_certificate, repairs):
            self.assertRaises(TypeError, function, T, (0,))
        self.assertRaises(TypeError, is_repair_certificate, T, REPAIR, (0,))

    def test_arguments_stay(self):
        for value in ([1, [0, 0]], {0: [1]}, (1, [0], [[]]), nested(40)):
            before = copy.deepcopy(value)
            self.assertIs(is_least_allowance(T, value), False)
            self.assertIs(is_repair_certificate(T, value), False)
            self.assertRaises(InvalidRules, least_allowance, value)
            self.assertRaises(InvalidRules, repair_certificate, value)
            self.assertEqual(value, before)

    def test_results_are_solutions_and_refutations_of_the_package(self):
        for rules in small():
            dropped, times, refutations = repair_certificate(rules)
            rest = (rules[0], tuple(rule for k, rule in enumerate(rules[1]) if k not in dropped))
            self.assertIs(is_solution(rest, times), True)
            self.assertEqual([is_refutation(rules, refutation) for refutation in refutations], [True] * len(dropped))


class Quick(unittest.TestCase):
    def test_eight_variables_and_24_rules(self):
        sets = great()
        start = time.process_time()
        for rules in sets:
            self.assertIs(is_repair_certificate(rules, repair_certificate(rules)), True)
            fitted = with_terms(rules)
            found = least_allowance(fitted)
            self.assertTrue(found is None or is_least_allowance(fitted, found))
        self.assertLess(time.process_time() - start, 0.05 * len(sets))

    def test_listing_repairs(self):
        draw = Draw(74)
        sets = [draw.rule_set(8, 24, low, high, most) for low, high in ((-60, 59), (-60, -60), (-1, 0), (-1, -1), (-5, 30))
                for most in (1, 2, 3) for _ in range(2)]
        start = time.process_time()
        listed = 0
        for rules in sets:
            try:
                listed += len(list(repairs(rules, keep=tuple(range(12)))))
            except Refuted:
                listed += len(list(repairs((8, rules[1][:12]))))
        self.assertGreater(listed, 50)
        self.assertLess(time.process_time() - start, 0.1 * len(sets))


if __name__ == "__main__":
    unittest.main()
