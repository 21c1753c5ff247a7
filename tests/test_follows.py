import copy
import time
import unittest

from latestof.errors import InvalidRules
from latestof.follow.follows import (
    difference, follow_certificate, follows, is_follow_certificate, is_reduction_certificate, reduced,
    reduction_certificate,
)
from latestof.rules.rules import negation
from latestof.rules.times import is_solution, shifted
from latestof.solve.solver import solve
from tests.plain import (
    all_hold, negated_rules, plain_follow_certificate, plain_reduction_certificate, plain_solution, plainly_follows,
    times_near,
)
from tests.support import (
    BAD_RULE_SETS, BAD_RULES, HUGE, JUNK, NO_INTEGERS, R, T, Draw, all_refutations, lowered, moved, nested,
    plainly_holds, shown, variants,
)

S = (3, ((0, ((1, 2),)), (1, ((2, 1),))))
U = (2, ((0, ((1, 0),)), (0, ((1, 0),))))
V = (2, ((0, ((1, 0),)), (0, ((1, 0),)), (1, ((0, 3),)), (0, ((0, -1), (1, 1)))))
REDUCTION = ((0,), ((1, 0), ((0, 0, 1), (1, 1, 0))))


def follows_by_lowering(rules, rule):
    return None in lowered((rules[0], rules[1] + negated_rules(rule)))


def plainly_reduced(rules):
    """Return what reduced returns, by its words."""
    left = list(range(len(rules[1])))
    for index in range(len(rules[1])):
        others = [k for k in left if k != index]
        if follows_by_lowering((rules[0], tuple(rules[1][k] for k in others)), rules[1][index]):
            left = others
    return tuple(left)


def pairs():
    """Return rule sets, each with a rule, in which about half of the rules follow."""
    draw = Draw(15)
    found = []
    for size, many, low, high in ((1, 2, -1, 1), (2, 3, -1, 1), (3, 3, -1, 1), (3, 4, -1, 2), (2, 2, -2, 2)):
        for _ in range(60):
            rules = draw.rule_set(size, draw.between(0, many), low, high)
            found.append((rules, draw.rule(size, low, high, size)))
            found.append((rules, draw.rule(size, high, high + 1, size)))
    return found


def great_rule_sets():
    draw = Draw(16)
    found = []
    for low, high in ((-60, 59), (-60, -60), (59, 59), (-60, 0), (-1, 1), (-3, 30)):
        for size in (1, 2, 5, 8):
            for most_terms in (1, 3, 8):
                found.append(draw.rule_set(size, 24, low, high, most_terms))
    return found


class Examples(unittest.TestCase):
    def test_follows(self):
        self.assertEqual(
            [follows(R, (2, ((0, 1),))), follows(R, (2, ((0, 0),))), follows(R, (0, ((1, 2), (2, -1)))),
             follows(T, (0, ()))], [True, False, True, True])
        self.assertEqual(follow_certificate(R, (2, ((0, 1),)))[0], "follows")

    def test_is_follow_certificate(self):
        self.assertIs(is_follow_certificate(S, (0, ((2, 2),)), ("breaks", (3, 1, 0))), True)
        self.assertIs(
            is_follow_certificate(S, (0, ((2, 3),)), ("follows", ((0, 0, 0), (1, 1, -7), (2, 2, -11)))), True)

    def test_difference(self):
        self.assertEqual([difference(S, (3, S[1] + ((0, ((2, 3),)),))), difference(S, (3, S[1][:1]))[0]], [None, 1])

    def test_reduced(self):
        self.assertEqual(reduced(V), (1, 2))
        self.assertEqual([reduced(U), is_reduction_certificate(U, REDUCTION)], [(1,), True])


class Follows(unittest.TestCase):
    def check(self, rules, rule):
        certificate = follow_certificate(rules, rule)
        self.assertTrue(plain_follow_certificate(rules, rule, certificate), (rules, rule))
        self.assertIs(is_follow_certificate(rules, rule, certificate), True, (rules, rule))
        self.assertEqual(follow_certificate(rules, rule), certificate)
        self.assertIs(follows(rules, rule), certificate[0] == "follows")
        return certificate[0] == "follows"

    def test_agrees_with_trying_all_times(self):
        found = [self.check(rules, rule) for rules, rule in pairs()]
        self.assertEqual(found, [plainly_follows(rules, rule) for rules, rule in pairs()])
        self.assertTrue(100 < sum(found) < len(found) - 100)

    def test_holds_for_every_solution(self):
        for rules, rule in pairs()[::3]:
            if follows(rules, rule):
                for times in times_near(*rules):
                    self.assertTrue(plainly_holds(rule, times) or not all_hold(rules[1], times))

    def test_agrees_with_solve_and_negation(self):
        for rules, rule in pairs():
            opposite = negation(rules[0], rule)
            verdict = solve((rules[0], rules[1] + opposite[1]))
            self.assertEqual(follows(rules, rule), verdict[0] == "refuted")

    def test_great_rule_sets(self):
        draw = Draw(17)
        for rules in great_rule_sets():
            for rule in [draw.rule(rules[0], -60, 59, 8) for _ in range(3)] + [
                    (0, tuple((k, delay) for k in range(rules[0]))) for delay in (-60, 59)]:
                self.assertEqual(self.check(rules, rule), follows_by_lowering(rules, rule), (rules, rule))

    def test_loose_rule_set_of_more_than_24_rules(self):
        # The negation has eight rules, with the indices 24 to 31.
        rule = (0, tuple((k, -60) for k in range(8)))
        rules = (8, ((0, ((1, 59),)),) * 16 + tuple((k, ((0, 59),)) for k in range(8)))
        certificate = follow_certificate(rules, rule)
        self.assertEqual(certificate[0], "breaks")
        self.check(rules, rule)
        rules = (8, ((0, ((1, -60),)),) * 24)
        self.assertIs(follows(rules, rule), True)
        indices = [triple[1] for triple in follow_certificate(rules, rule)[1]]
        self.assertEqual((indices[0] < 24, indices[1]), (True, 25))
        self.assertIs(is_follow_certificate(rules, rule, ("follows", ((0, 23, 0), (1, 25, 119)))), True)
        self.assertIs(is_follow_certificate(rules, rule, ("follows", ((0, 23, 0), (1, 25, 120)))), False)
        self.assertIs(is_follow_certificate(rules, rule, ("follows", ((0, 24, 0),))), False)
        self.assertIs(is_follow_certificate(rules, rule, ("follows", ((0, 23, 0), (1, 32, 119)))), False)

    def test_rule_without_terms_follows_only_from_infeasible_rules(self):
        for rules in (R, (1, ()), (8, ()), S, U):
            self.assertIs(follows(rules, (0, ())), False)
            self.check(rules, (rules[0] - 1, ()))
        for rules in (T, (2, ((1, ()),))):
            for rule in ((0, ()), (1, ()), (0, ((1, -60),)), (1, ((0, 59), (1, 59)))):
                self.assertIs(self.check(rules, rule), True)

    def test_from_no_rules(self):
        self.assertIs(follows((1, ()), (0, ((0, 0),))), True)
        self.assertEqual(follow_certificate((1, ()), (0, ((0, 59),)))[1][0][:2], (0, 0))
        self.assertIs(follows((1, ()), (0, ((0, -1),))), False)
        self.assertIs(follows((2, ()), (0, ((0, -1), (1, 59)))), False)
        self.assertIs(follows((2, ()), (1, ((0, -60), (1, 0)))), True)

    def test_each_rule_of_a_set_follows(self):
        for rules in great_rule_sets()[::5]:
            for rule in rules[1]:
                self.assertIs(self.check(rules, rule), True)


class IsFollowCertificate(unittest.TestCase):
    def test_certificates_with_one_part_changed(self):
        accepted = 0
        for rules, rule in pairs()[::12] + [(R, (2, ((0, 1),))), (S, (0, ((2, 2),))), (T, (0, ()))]:
            for value in variants(follow_certificate(rules, rule)):
                wanted = plain_follow_certificate(rules, rule, value)
                self.assertIs(is_follow_certificate(rules, rule, value), wanted, (rules, rule, value))
                accepted += wanted
        self.assertGreater(accepted, 50)

    def test_all_numbers_moved(self):
        for rules, rule in pairs()[::5]:
            word, part = follow_certificate(rules, rule)
            for by in (1, HUGE, -HUGE):
                value = (word, moved(part, by) if word == "follows" else shifted(part, by))
                self.assertIs(is_follow_certificate(rules, rule, value), True)

    def test_certificates_of_others(self):
        for rules, rule in pairs()[::4]:
            loose = (rules[0], rules[1] + negated_rules(rule))
            for refutation in all_refutations(loose):
                self.assertIs(is_follow_certificate(rules, rule, ("follows", refutation)), True)
                self.assertIs(is_follow_certificate(rules, rule, ("breaks", refutation)), False)
            for times in times_near(rules[0], ((0, ((0, -1),)),)):
                wanted = plain_follow_certificate(rules, rule, ("breaks", times))
                self.assertIs(is_follow_certificate(rules, rule, ("breaks", times)), wanted)

    def test_wrong_values(self):
        good = ("follows", ((0, 0, 0), (1, 1, -7), (2, 2, -11)))
        for value in JUNK + (
            list(good), good[:1], good + (None,), ("breaks", good[1]), (b"follows", good[1]), ("Follows", good[1]),
            ("follows", list(good[1])), ("follows", good[1][:2]), ("breaks", (3, 1, 0)), ("follows", (3, 1, 0)),
            ("times", (3, 1, 0)), ("refuted", good[1]), (None, good[1]), (True, good[1]), (["follows"], good[1]),
        ):
            with self.subTest(shown(value)):
                self.assertIs(is_follow_certificate(S, (0, ((2, 3),)), value), False)
        for value in JUNK + (("breaks", (3, 1)), ("breaks", [3, 1, 0]), ("breaks", (3, True, 0)), ("breaks", (2, 1, 0)),
                             ("breaks", (4, 1, 0)), ("breaks", (3, 1, None)), ["breaks", (3, 1, 0)]):
            with self.subTest(shown(value)):
                self.assertIs(is_follow_certificate(S, (0, ((2, 2),)), value), False)


class Difference(unittest.TestCase):
    def check(self, first, second):
        found = difference(first, second)
        self.assertEqual(difference(first, second), found)
        if found is not None:
            self.assertTrue(isinstance(found, tuple) and len(found) == 2)
            side, times = found
            self.assertIs(type(side), int)
            one, other = ((first, second), (second, first))[side]
            self.assertTrue(plain_solution(one, times) and not plain_solution(other, times))
            self.assertTrue(is_solution(one, times) and not is_solution(other, times))
        return found

    def test_agrees_with_trying_all_times(self):
        draw = Draw(18)
        kinds = set()
        for size, many in ((1, 3), (2, 2), (2, 4), (3, 2), (3, 4)):
            for _ in range(40):
                first, second = (draw.rule_set(size, draw.between(0, many), -1, 1) for _ in range(2))
                found = self.check(first, second)
                same = all(plainly_follows(first, rule) for rule in second[1]) and all(
                    plainly_follows(second, rule) for rule in first[1])
                self.assertEqual(found is None, same)
                kinds.add(None if same else found[0])
        self.assertEqual(kinds, {None, 0, 1})

    def test_one_side_has_all_solutions_of_the_other(self):
        for rules in great_rule_sets():
            kept = (rules[0], tuple(rules[1][k] for k in reduced(rules)))
            self.assertIsNone(self.check(rules, kept))
            self.assertIsNone(self.check(kept, rules))
            less = (rules[0], kept[1][1:])
            if kept[1]:
                self.assertEqual(self.check(rules, less)[0], 1)
                self.assertEqual(self.check(less, rules)[0], 0)

    def test_rule_sets_without_solutions(self):
        self.assertIsNone(self.check(T, (2, ((0, ()),))))
        self.assertEqual(self.check(T, (2, ()))[0], 1)
        self.assertEqual(self.check((2, ()), T)[0], 0)
        self.assertIsNone(self.check((1, ()), (1, ((0, ((0, 7),)),))))


class Reduced(unittest.TestCase):
    def check(self, rules):
        kept = reduced(rules)
        certificate = reduction_certificate(rules)
        self.assertEqual(kept, plainly_reduced(rules), rules)
        self.assertTrue(plain_reduction_certificate(rules, certificate), rules)
        self.assertIs(is_reduction_certificate(rules, certificate), True, rules)
        self.assertEqual((reduced(rules), reduction_certificate(rules)), (kept, certificate))
        return kept

    def test_small_rule_sets(self):
        for rules, rule in pairs():
            self.check(rules)
            self.check((rules[0], rules[1] + (rule,) + rules[1]))

    def test_great_rule_sets(self):
        for rules in great_rule_sets():
            self.check(rules)

    def test_kept_rules_have_the_same_solutions(self):
        for rules, _ in pairs()[::3]:
            kept = [rules[1][k] for k in reduced(rules)]
            for times in times_near(rules[0], ((0, ((0, -2),)),)):
                self.assertEqual(all_hold(kept, times), all_hold(rules[1], times))

    def test_particular_ones(self):
        self.assertEqual(self.check((1, ())), ())
        self.assertEqual(reduction_certificate((1, ())), ((), ()))
        self.assertEqual(self.check((1, ((0, ((0, 0),)),) * 24)), ())
        self.assertEqual(self.check((3, (R[1][0],) * 24)), (23,))
        self.assertEqual(self.check((2, ((0, ()), (1, ())))), (1,))
        # The rules of an infeasible set that are left are a core.
        self.assertEqual(self.check(T), (0, 1))
        self.assertEqual(self.check((2, T[1][::-1])), (1, 2))
        self.assertEqual(self.check((2, T[1] + ((1, ()),))), (3,))


class IsReductionCertificate(unittest.TestCase):
    def test_certificates_with_one_part_changed(self):
        accepted = 0
        for rules in [R, T, U, V] + [(rules[0], rules[1] + (rule,)) for rules, rule in pairs()[::30]]:
            for value in variants(reduction_certificate(rules)) + variants((REDUCTION[0], reduction_certificate(U)[1])):
                wanted = plain_reduction_certificate(rules, value)
                self.assertIs(is_reduction_certificate(rules, value), wanted, (rules, value))
                accepted += wanted
        self.assertGreater(accepted, 50)

    def test_all_kept_sets(self):
        # For every set of kept rules the best reasons that there are: just those sets that are reductions are accepted.
        tried = set()
        for rules, rule in pairs()[::7]:
            rules = (rules[0], rules[1] + (rule,))
            many = len(rules[1])
            for mask in range(2 ** many):
                kept = tuple(k for k in range(many) if mask >> k & 1)
                reasons = []
                for index in range(many):
                    others = (rules[0], tuple(rules[1][k] for k in kept if k != index))
                    reasons.append(follow_certificate(others, rules[1][index]))
                wanted = all((word == "breaks") == (k in kept) for k, (word, _) in enumerate(reasons))
                value = (kept, tuple(part for _, part in reasons))
                self.assertIs(is_reduction_certificate(rules, value), wanted, (rules, value))
                tried.add(wanted)
        self.assertEqual(tried, {True, False})

    def test_all_numbers_moved(self):
        for by in (1, HUGE, -HUGE):
            self.assertIs(
                is_reduction_certificate(U, ((0,), (shifted((1, 0), by), moved(((0, 0, 1), (1, 1, 0)), by)))), True)
            self.assertIs(
                is_reduction_certificate(U, ((1,), (moved(((0, 0, 1), (1, 1, 0)), -by), shifted((1, 0), by)))), True)

    def test_indices_count_from_the_kept_rules(self):
        # Rule 2 alone is kept: in the reasons it has the index 0, and the negations have the index 1.
        rules = (2, ((0, ((1, 1),)), (0, ((1, 2),)), (0, ((1, 0),))))
        reason = ((0, 0, 1), (1, 1, 0))
        self.assertIs(is_reduction_certificate(rules, ((2,), (((0, 0, 0), (1, 1, -1)), reason, (1, 0)))), True)
        self.assertIs(is_reduction_certificate(rules, ((2,), (((0, 2, 0), (1, 3, -1)), reason, (1, 0)))), False)
        self.assertIs(is_reduction_certificate(rules, ((0, 2), ((1, 0), reason, (1, 0)))), False)

    def test_wrong_values(self):
        kept, reasons = REDUCTION
        for value in JUNK + (
            list(REDUCTION), REDUCTION[:1], REDUCTION + (None,), ([0], reasons), (kept, list(reasons)), ((), reasons),
            ((False,), reasons), ((1,), reasons), ((0, 1), reasons), ((0, 0), reasons), ((2,), reasons), ((-1,), reasons),
            (kept, reasons[:1]), (kept, reasons + (None,)), (kept, reasons[::-1]), (kept, (None, reasons[1])),
            (kept, (reasons[0], None)), (kept, ((0, 0), reasons[1])), (kept, ((1, False), reasons[1])), (None, reasons),
            (kept, (reasons[0], ())), (kept, (("breaks", (1, 0)), ("follows", reasons[1]))), (kept, None), ("0", reasons),
        ):
            with self.subTest(shown(value)):
                self.assertIs(is_reduction_certificate(U, value), False)


class Errors(unittest.TestCase):
    def test_wrong_rule_sets(self):
        for wrong in BAD_RULE_SETS + NO_INTEGERS:
            with self.subTest(shown(wrong)):
                for function in (reduced, reduction_certificate):
                    self.assertRaises(InvalidRules, function, wrong)
                for function in (follow_certificate, follows, is_reduction_certificate):
                    self.assertRaises(InvalidRules, function, wrong, (0, ()))
                self.assertRaises(InvalidRules, is_follow_certificate, wrong, (0, ()), None)
                self.assertRaises(InvalidRules, difference, wrong, R)
                self.assertRaises(InvalidRules, difference, R, wrong)

    def test_wrong_rules(self):
        for wrong in BAD_RULES:
            with self.subTest(shown(wrong)):
                for function in (follow_certificate, follows):
                    self.assertRaises(InvalidRules, function, R, wrong)
                self.assertRaises(InvalidRules, is_follow_certificate, R, wrong, ("follows", ((0, 0, 0),)))

    def test_rule_sets_of_two_sizes(self):
        for first, second in ((R, T), (T, R), ((1, ()), (8, ())), ((3, T[1]), T)):
            self.assertRaises(InvalidRules, difference, first, second)

    def test_arguments_stay(self):
        for value in ([["follows"], [[0, 0]]], ([0], {1: [2]}), nested(40)):
            before = copy.deepcopy(value)
            self.assertIs(is_follow_certificate(R, (0, ()), value), False)
            self.assertIs(is_reduction_certificate(R, value), False)
            self.assertRaises(InvalidRules, follows, R, value)
            self.assertRaises(InvalidRules, difference, R, value)
            self.assertEqual(value, before)


class Quick(unittest.TestCase):
    def test_eight_variables_and_24_rules(self):
        sets = [rules for rules in great_rule_sets() if rules[0] == 8]
        start = time.process_time()
        for rules in sets:
            for rule in rules[1]:
                follow_certificate(rules, rule)
        self.assertLess(time.process_time() - start, 0.005 * 24 * len(sets))
        start = time.process_time()
        for rules in sets:
            is_reduction_certificate(rules, reduction_certificate(rules))
            difference(rules, rules)
            reduced(rules)
        self.assertLess(time.process_time() - start, 0.1 * len(sets))


if __name__ == "__main__":
    unittest.main()
