import copy
import time
import unittest
from itertools import product

from latestof.errors import InvalidRules
from latestof.follow.follows import follow_certificate
from latestof.rules.times import shifted
from latestof.solve.solver import solve
from latestof.without.between import interpolant, is_interpolant, occurring_variables
from tests.plain import negated_rules, occurring, plain_interpolant, plainly_feasible
from tests.support import (
    BAD_RULE_SETS, HUGE, JUNK, NO_INTEGERS, R, T, Draw, all_refutations, lowered, moved, nested, ring, shown, variants,
)

G = (3, ((0, ((1, -2),)), (1, ((2, 0),))))
H = (3, ((2, ((0, 1),)),))
REASON = ((0, 0, 0), (1, 1, 5), (2, 2, 4))
GOOD = ("middle", (3, ((0, ((2, -2),)),)), (REASON,), ((0, 0, 0), (2, 1, 3)))


def small():
    """Return pairs of small rule sets."""
    draw = Draw(31)
    found = [((2, ()), (2, ())), (T, T), (T, (2, ())), ((2, ()), T), (G, H), (H, G)]
    for size, many, low, high in ((1, 2, -1, 1), (2, 2, -2, 1), (2, 3, -1, 1), (3, 2, -2, 1), (3, 3, -1, 1), (3, 4, -1, 0)):
        for _ in range(30):
            found.append(tuple(draw.rule_set(size, draw.between(0, many), low, high) for _ in range(2)))
    return found


def great():
    draw = Draw(32)
    found = []
    for low, high in ((-60, 59), (-60, -60), (59, 59), (-60, 0), (-1, 1), (-3, 30)):
        for size in (2, 4, 8):
            for many in (3, 8, 24):
                for most_terms in (1, 2, 8):
                    found.append(tuple(draw.rule_set(size, many, low, high, most_terms) for _ in range(2)))
    return found


def split_rings():
    """Return pairs of rule sets that have the rules of a ring together, shared out in several ways."""
    found = []
    for delays in ((-1,), (5, -6), (-60, 59, 0), (3, -1, -1, -2), (59, -60) * 4, (-60,) * 8, (59,) * 3 + (-60,) * 5):
        size, listed = ring(len(delays), delays)
        for mask in (0, 1, 2, 5, 85, 170, 15, 240, 255, 2 ** size - 1):
            for back in (False, True):
                first = tuple(rule for k, rule in enumerate(listed) if bool(mask >> k & 1) != back)
                found.append(((size, first), (size, tuple(rule for rule in listed if rule not in first))))
    return found


class Examples(unittest.TestCase):
    def test_occurring_variables(self):
        self.assertEqual(
            [occurring_variables(R), occurring_variables((4, ((0, ()), (1, ((3, 0),)))))], [(0, 1, 2), (1, 3)])

    def test_interpolant(self):
        self.assertEqual([interpolant(G, H)[0], interpolant(G, (3, ((2, ((0, 2),)),)))[0]], ["middle", "times"])
        self.assertIs(is_interpolant(G, H, GOOD), True)


class OccurringVariables(unittest.TestCase):
    def test_by_the_words_of_the_document(self):
        for first, second in small() + great():
            for rules in (first, second):
                self.assertEqual(occurring_variables(rules), tuple(sorted(occurring(rules[1]))))

    def test_rules_count_as_they_are_written(self):
        self.assertEqual(occurring_variables((8, ())), ())
        self.assertEqual(occurring_variables((8, ((7, ()), (3, ())))), ())
        self.assertEqual(occurring_variables((1, ((0, ((0, 59),)),))), (0,))
        self.assertEqual(occurring_variables((8, ((7, ((7, -1),)), (3, ((0, 59), (3, 0)))))), (0, 3, 7))


class Interpolant(unittest.TestCase):
    def check(self, first, second):
        found = interpolant(first, second)
        self.assertTrue(plain_interpolant(first, second, found), (first, second, found))
        self.assertIs(is_interpolant(first, second, found), True, (first, second))
        self.assertEqual(interpolant(first, second), found)
        return found

    def test_exactly_if_there_is_no_common_solution(self):
        tried = set()
        for first, second in small():
            word = self.check(first, second)[0]
            self.assertEqual(word == "times", plainly_feasible(first[0], first[1] + second[1]))
            tried.add(word)
        self.assertEqual(tried, {"times", "middle"})

    def test_great_rule_sets(self):
        tried = set()
        for first, second in great():
            word = self.check(first, second)[0]
            self.assertEqual(word == "times", None not in lowered((first[0], first[1] + second[1])))
            tried.add(word)
        self.assertEqual(tried, {"times", "middle"})

    def test_shared_rings(self):
        for first, second in split_rings():
            word = self.check(first, second)[0]
            self.assertEqual(word == "times", None not in lowered((first[0], first[1] + second[1])))

    def test_agrees_with_solve(self):
        for first, second in small():
            both = first[0], first[1] + second[1]
            self.assertEqual(interpolant(first, second)[0] == "times", solve(both)[0] == "times")

    def test_one_side_without_solutions(self):
        for second in ((2, ()), T, (2, ((0, ((1, 59),)),))):
            self.check(T, second)
            self.check(second, T)
        # Nothing occurs in both: the middle is a rule without terms, or no rules at all.
        found = self.check(T, (2, ()))
        self.assertEqual([terms for _, terms in found[1][1]], [()])
        self.assertEqual(self.check((2, ()), T)[1:3], ((2, ()), ()))
        self.assertEqual(self.check((8, ((3, ()),)), (8, ((5, ((4, 0),)),)))[0], "middle")
        self.assertEqual(self.check((8, ((5, ((4, 0),)),)), (8, ((3, ()),)))[1], (8, ()))

    def test_rules_without_terms_do_not_mention_their_variable(self):
        # 1 occurs in the first rule set alone: the second one has no solution for other reasons.
        first, second = (2, ((0, ((1, 2),)),)), (2, ((1, ()),))
        self.assertEqual(self.check(first, second)[1], (2, ()))
        self.assertEqual(self.check(second, first)[1][1][0][1], ())

    def test_loose_delays(self):
        # Only 0 and 7 occur in both, and the way between them is long.
        first = (8, tuple((k, ((k + 1, -60),)) for k in range(7)))
        second = (8, ((7, ((0, 59),)),))
        self.assertEqual(self.check(first, second)[1], (8, ((0, ((7, -420),)),)))
        self.assertEqual(self.check(second, first)[1], (8, ((7, ((0, 59),)),)))
        # Here only 0 and 1 occur in both.
        first = (8, ((1, ((2, 59),)), (2, ((3, 59),)), (3, ((0, 59),))))
        second = (8, ((0, ((4, -60),)), (4, ((5, -60),)), (5, ((1, -60),))))
        self.assertEqual(self.check(first, second)[1], (8, ((1, ((0, 177),)),)))
        self.assertEqual(self.check(second, first)[1], (8, ((0, ((1, -180),)),)))

    def test_48_rules_together(self):
        filler = ((0, ((0, 0),)),) * 23
        found = self.check((2, filler + ((0, ((1, -1),)),)), (2, filler + ((1, ((0, 0),)),)))
        self.assertEqual(found[0], "middle")
        self.assertEqual(self.check((2, filler + ((0, ((1, -1),)),)), (2, filler + ((1, ((0, 1),)),)))[0], "times")


class IsInterpolant(unittest.TestCase):
    def test_certificates_with_one_part_changed(self):
        accepted = 0
        for first, second in small()[2:6] + small()[6::20] + split_rings()[30:34]:
            for value in variants(interpolant(first, second)):
                wanted = plain_interpolant(first, second, value)
                self.assertIs(is_interpolant(first, second, value), wanted, (first, second, value))
                accepted += wanted
        for value in variants(GOOD):
            self.assertIs(is_interpolant(G, H, value), plain_interpolant(G, H, value), value)
        self.assertGreater(accepted, 20)

    def test_all_middles_of_one_rule(self):
        # Each rule as a middle with the best reasons that there are: just those that are between are accepted.
        accepted = 0
        for first, second in small()[4::9]:
            size = first[0]
            entries = product([None] + list(range(-3, 3)), repeat=size)
            for delays in list(entries)[::3]:
                terms = tuple((j, c) for j, c in enumerate(delays) if c is not None)
                for left in range(size):
                    accepted += self.check_rule(first, second, (left, terms))
        self.assertGreater(accepted, 50)

    def check_rule(self, first, second, rule):
        size = first[0]
        word, reason = follow_certificate(first, rule)
        verdict = solve((size, (rule,) + second[1]))
        value = ("middle", (size, (rule,)), (reason,), verdict[1])
        allowed = occurring((rule,)) <= occurring(first[1]) & occurring(second[1])
        wanted = word == "follows" and verdict[0] == "refuted" and allowed
        self.assertIs(is_interpolant(first, second, value), wanted, (first, second, value))
        self.assertIs(plain_interpolant(first, second, value), wanted)
        return wanted

    def test_refutations_of_others(self):
        reasons = list(all_refutations((3, G[1] + negated_rules((0, ((2, -2),))))))
        refutations = list(all_refutations((3, GOOD[1][1] + H[1])))
        for reason, refutation in product(reasons, refutations):
            for by in (0, -4, HUGE):
                value = ("middle", GOOD[1], (moved(reason, by),), moved(refutation, -by))
                self.assertIs(is_interpolant(G, H, value), True)

    def test_middles_of_just_24_rules_and_one_more(self):
        rule = GOOD[1][1][0]
        for many in (2, 24, 25, 48):
            value = ("middle", (3, (rule,) * many), (REASON,) * many, ((0, many - 1, 0), (2, many, 3)))
            self.assertIs(is_interpolant(G, H, value), many <= 24)

    def test_loose_delays(self):
        first, second = (2, ((0, ((1, -60),)),)), (2, ((1, ((0, 59),)),))
        reason = ((0, 0, 0), (1, 1, 119))
        self.assertIs(is_interpolant(first, second, (
            "middle", (2, ((0, ((1, -60),)),)), (reason,), ((0, 0, 0), (1, 1, 119)))), True)
        # A middle may have a rule that is far from the others, if it follows.
        loose = ("middle", (2, ((0, ((1, HUGE),)), (0, ((1, -60),)))),
                 (((0, 0, 0), (1, 1, -2 * HUGE - 1)), reason), ((0, 1, 0), (1, 2, 119)))
        self.assertIs(plain_interpolant(first, second, loose), True)
        self.assertIs(is_interpolant(first, second, loose), True)
        self.assertIs(is_interpolant((2, ()), (2, ((0, ()),)), ("middle", (2, ()), (), ((0, 0, HUGE),))), True)

    def test_variables_that_do_not_occur_in_both(self):
        # x1 <= x2 follows from G, but 1 does not occur in H.
        value = ("middle", (3, GOOD[1][1] + (G[1][1],)), (REASON, ((1, 1, 0), (2, 2, -1))), ((0, 0, 0), (2, 2, 3)))
        self.assertIs(plain_interpolant(G, H, value), False)
        self.assertIs(is_interpolant(G, H, value), False)
        wider = (3, H[1] + ((1, ((1, 0),)),))
        self.assertIs(is_interpolant(G, wider, value), True)
        # A rule of 1 without terms in the second rule set does not mention it.
        self.assertIs(is_interpolant(G, (3, H[1] + ((1, ()),)), value), False)

    def test_times(self):
        second = (3, ((2, ((0, 2),)),))
        for times in product(range(-3, 1), repeat=3):
            wanted = plain_interpolant(G, second, ("times", times))
            self.assertIs(is_interpolant(G, second, ("times", times)), wanted)
            self.assertIs(is_interpolant(G, second, ("times", shifted(times, HUGE))), wanted)
            self.assertIs(is_interpolant(G, H, ("times", times)), False)
        self.assertIs(is_interpolant(G, second, ("times", (-2, 0, 0))), True)

    def test_wrong_values(self):
        _, middle, reasons, refutation = GOOD
        rule = middle[1][0]
        for value in JUNK + (
            list(GOOD), GOOD[:3], GOOD + (None,), (b"middle",) + GOOD[1:], ("Middle",) + GOOD[1:], (None,) + GOOD[1:],
            ("times", (-2, 0, 0)), ("times", GOOD), ("middle", list(middle), reasons, refutation),
            ("middle", (2, middle[1]), reasons, refutation), ("middle", (4, middle[1]), reasons, refutation),
            ("middle", (3.0, middle[1]), reasons, refutation), ("middle", (True, middle[1]), reasons, refutation),
            ("middle", (3, [rule]), reasons, refutation), ("middle", (3, (list(rule),)), reasons, refutation),
            ("middle", (3, ((0, [(2, -2)]),)), reasons, refutation), ("middle", (3, ((0, ([2, -2],)),)), reasons, refutation),
            ("middle", (3, ((False, ((2, -2),)),)), reasons, refutation), ("middle", (3, ()), (), refutation),
            ("middle", (3, ((0, ((2, None),)),)), reasons, refutation), ("middle", (3, ((0, ((2, True),)),)), reasons, refutation),
            ("middle", (3, ((0, ((3, -2),)),)), reasons, refutation), ("middle", (3, ((3, ((2, -2),)),)), reasons, refutation),
            ("middle", (3, ((0, ((2, -2), (2, -2))),)), reasons, refutation),
            ("middle", (3, ((0, ((2, -2), (0, -2))),)), reasons, refutation), ("middle", middle, (), refutation),
            ("middle", middle, list(reasons), refutation), ("middle", middle, reasons * 2, refutation),
            ("middle", middle, reasons, None), ("middle", middle, (None,), refutation), ("middle", None, reasons, refutation),
            ("middle", middle, reasons, list(refutation)), ("middle", middle, None, refutation),
            ("middle", middle, refutation, reasons), ("middle", "3", reasons, refutation),
        ):
            with self.subTest(shown(value)):
                self.assertIs(is_interpolant(G, H, value), False)

    def test_size_1_is_not_true(self):
        first = (1, ((0, ()),))
        good = ("middle", first, (((0, 0, 0),),), ((0, 0, 0),))
        self.assertIs(is_interpolant(first, (1, ()), good), True)
        self.assertIs(is_interpolant(first, (1, ()), ("middle", (True, first[1]), good[2], good[3])), False)

    def test_those_of_other_arguments(self):
        self.assertIs(is_interpolant(H, G, GOOD), False)
        self.assertIs(is_interpolant(G, G, GOOD), False)
        self.assertIs(is_interpolant((3, G[1][::-1]), H, GOOD), False)


class Errors(unittest.TestCase):
    def test_wrong_rules(self):
        for wrong in BAD_RULE_SETS + NO_INTEGERS:
            with self.subTest(shown(wrong)):
                self.assertRaises(InvalidRules, occurring_variables, wrong)
                for first, second in ((wrong, H), (G, wrong), (wrong, wrong)):
                    self.assertRaises(InvalidRules, interpolant, first, second)
                    self.assertRaises(InvalidRules, is_interpolant, first, second, GOOD)

    def test_rule_sets_of_two_sizes(self):
        for first, second in ((R, T), (T, R), ((1, ()), (8, ()))):
            self.assertRaises(InvalidRules, interpolant, first, second)
            self.assertRaises(InvalidRules, is_interpolant, first, second, None)

    def test_arguments_stay(self):
        for value in (["middle", [], []], ("middle", [3, []], [], {}), nested(40)):
            before = copy.deepcopy(value)
            self.assertIs(is_interpolant(G, H, value), False)
            self.assertRaises(InvalidRules, interpolant, G, value)
            self.assertEqual(value, before)


class Quick(unittest.TestCase):
    def test_eight_variables_and_24_rules_each(self):
        pairs = [pair for pair in great() if pair[0][0] == 8 and len(pair[0][1]) == 24]
        start = time.process_time()
        for first, second in pairs:
            self.assertIs(is_interpolant(first, second, interpolant(first, second)), True)
        self.assertLess(time.process_time() - start, 0.02 * len(pairs))


if __name__ == "__main__":
    unittest.main()
