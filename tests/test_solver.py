import copy
import unittest
from itertools import product

from latestof.errors import InvalidRules
from latestof.rules.rules import is_rule_set
from latestof.rules.times import is_solution, shifted
from latestof.solve.solver import excluded, is_refutation, is_split, is_verdict, solve, split
from tests.support import (
    BAD_RULE_SETS, BAD_TIMES, HUGE, JUNK, NO_INTEGERS, P, R, T, Draw, lowered, nested, plainly_holds,
    plainly_possible, plainly_refutes, refuted_variables, ring, rings,
)

GOOD = ((0, 0, 0), (1, 1, 1))

# None of these is a refutation of T.
BAD_REFUTATIONS = JUNK + (
    list(GOOD), ([0, 0, 0], (1, 1, 1)), GOOD[:1], GOOD[1:], GOOD[::-1], (GOOD[0], GOOD[0]), GOOD + GOOD[1:],
    GOOD + (None,), GOOD + ((2, 0, 0),), (GOOD,), {0: GOOD[0], 1: GOOD[1]}, "refutation", b"refutation",
    ((0, 0), (1, 1, 1)), ((0, 0, 0, 0), (1, 1, 1)), ((0, 0, 0), (1, 2, 1)), ((0, 0, 0), (1, 0, 1)),
    ((0, 1, 0), (1, 1, 1)), ((0, 0, 0), (1, 3, 1)), ((0, 0, 0), (1, -1, 1)), ((0, 0, 0), (1, -2, 1)),
    ((0, 0, 0), (1, HUGE, 1)), ((0, 0, 0), (True, 1, 1)), ((False, 0, 0), (1, 1, 1)), ((0, False, 0), (1, 1, 1)),
    ((0, 0, 0), (1, True, 1)), ((0, 0, False), (1, 1, 1)), ((0, 0, 0), (1, 1, True)), ((0, 0, 0), (1, 1, None)),
    ((0, 0, 0), (1, 1, "1")), ((0, 0, 0), (1, 1, b"\x01")), ((0, 0, 0), (1, 1, (1,))), ((0, 0, 0), (1, 1, [1])),
    ((0, 0, 0), (1, "1", 1)), ((0, 0, 0), (1, None, 1)), ((0, 0, 0), (1, [1], 1)), ((0, 0, 0), ("1", 1, 1)),
    ((0, 0, 0), ({}, 1, 1)), ((0, 0, 0), (HUGE, 1, 1)), ((-1, 0, 0), (1, 1, 1)), ((0, 0, 0), (1, 1, 0)),
    ((0, 0, 0), (1, 1, 2)), ((0, 0, HUGE), (1, 1, HUGE)), ((0, 0, HUGE), (1, 1, HUGE + 2)),
)


def drawn_rule_sets():
    """Return rule sets of all sizes, feasible ones and others, with and without rules without terms."""
    draw = Draw(77)
    found = [(size, ()) for size in range(1, 9)]
    for size in range(1, 9):
        for low, high in ((-60, 59), (-1, 1), (-1, 0), (-3, 9), (-60, 0), (0, 59)):
            for _ in range(12):
                found.append(draw.rule_set(size, draw.between(1, 24), low, high, draw.between(1, 8)))
    return found


def ring_rule_sets():
    """Return the rings with one rule more, with a way out of the ring, and with a rule outside of it."""
    found = []
    for size in range(1, 9):
        for _, rules in rings(size):
            listed = rules[1]
            left, terms = listed[0]
            found.append((size, listed + ((size - 1, ()),)))
            found.append((size, ((0, ()),) + listed))
            if size > 1:
                found.append((size, listed[1:] + ((0, ((0, 0),) + terms),)))
                found.append((size, listed[1:] + ((0, ((0, -1),) + terms),)))
            if size < 8:
                found.append((size + 1, listed + ((size, ((0, 59),)),)))
                found.append((size + 1, listed[1:] + ((left, terms + ((size, -60),)),)))
                found.append((size + 1, listed[1:] + ((left, terms + ((size, -60),)), (size, ((0, 59),)))))
    return found


class Examples(unittest.TestCase):
    def test_solve(self):
        self.assertEqual([solve(R)[0], is_solution(R, solve(R)[1]), solve(T)[0]], ["times", True, "refuted"])

    def test_is_refutation(self):
        self.assertEqual(
            [is_refutation(T, ((0, 0, 0), (1, 1, 1))), is_refutation(T, ((0, 0, 0), (1, 2, 1)))], [True, False])

    def test_split_and_excluded(self):
        self.assertEqual(
            [excluded(P), excluded((3, P[1][:3])),
             is_split((3, P[1][:3]), ((None, None, 7), ((0, 0, 0), (1, 1, 1))))],
            [(0, 1, 2, 3), (0, 1), True])
        # P begins with the three rules of T. With the fourth one, 2 needs 0.
        self.assertEqual(excluded((3, P[1][:4])), (0, 1, 2))



class Agreement(unittest.TestCase):
    def check(self, rules):
        size = rules[0]
        verdict, parts, out = solve(rules), split(rules), excluded(rules)
        partial, refutation = parts
        self.assertIs(is_verdict(rules, verdict), True, rules)
        self.assertIs(is_split(rules, parts), True, rules)
        self.assertEqual(out, tuple(j for j in range(size) if partial[j] is None))
        self.assertEqual(verdict[0], "refuted" if out else "times")
        for rule in rules[1]:
            self.assertTrue(plainly_holds(rule, partial), rules)
        if out:
            self.assertEqual(tuple(triple[0] for triple in refutation), out)
            self.assertTrue(plainly_refutes(rules, refutation) and plainly_refutes(rules, verdict[1]), rules)
            self.assertIs(is_refutation(rules, verdict[1]), True)
            self.assertIs(is_refutation(rules, refutation), True)
            self.assertIs(is_verdict(rules, ("refuted", refutation)), True)
            self.assertIs(is_verdict(rules, ("times", refutation)), False)
            self.assertIs(is_solution(rules, partial), False)
            self.assertIs(is_split(rules, (partial, None)), False)
        else:
            self.assertIsNone(refutation)
            self.assertIs(is_solution(rules, partial), True)
            self.assertIs(is_solution(rules, verdict[1]), True)
            self.assertIs(is_verdict(rules, ("times", partial)), True)
            self.assertIs(is_verdict(rules, ("refuted", partial)), False)
            self.assertIs(is_refutation(rules, partial), False)
        self.assertEqual((solve(rules), split(rules), excluded(rules)), (verdict, parts, out))

    def test_drawn_rule_sets(self):
        kinds = set()
        for rules in drawn_rule_sets():
            self.check(rules)
            self.assertEqual(excluded(rules), tuple(k for k, x in enumerate(lowered(rules)) if x is None), rules)
            kinds.add(min(2, len(excluded(rules))) if len(excluded(rules)) < rules[0] else "all")
        self.assertEqual(kinds, {0, 1, 2, "all"})

    def test_rings(self):
        for size in range(1, 9):
            for total, rules in rings(size):
                self.assertTrue(is_rule_set(rules))
                self.check(rules)
                self.assertEqual(excluded(rules), tuple(range(size)) if total < 0 else ())

    def test_rings_with_more_rules(self):
        for rules in ring_rule_sets():
            self.assertTrue(is_rule_set(rules), rules)
            self.check(rules)
            self.assertEqual(excluded(rules), tuple(k for k, x in enumerate(lowered(rules)) if x is None), rules)

    def test_rules_without_terms(self):
        for size in range(1, 9):
            for variable in range(size):
                rules = (size, ((variable, ()),))
                self.check(rules)
                self.assertEqual(excluded(rules), (variable,))
                rules = (size, tuple((k, ((k - 1, 59),) if k else ()) for k in range(variable + 1)))
                self.check(rules)
                self.assertEqual(excluded(rules), tuple(range(variable + 1)))

    def test_eight_variables_with_the_greatest_and_least_delays(self):
        for delay in (-60, 59):
            everything = tuple((j, tuple((k, delay) for k in range(8))) for j in range(8))
            for rules in ((8, everything), (8, everything * 3), (8, everything[:7]), ring(8, [delay] * 8),
                          (8, everything[:7] + ((7, ()),)), (8, everything + ((3, ((3, -1),)),))):
                self.check(rules)
        chain = (8, tuple((k, ((k + 1, -60),)) for k in range(7)))
        self.check(chain)
        self.assertEqual(excluded(chain), ())
        self.check((8, chain[1] + ((7, ((0, 59), (3, 59))),)))
        self.assertEqual(excluded((8, chain[1] + ((7, ((0, 59), (3, 59))),))), tuple(range(8)))

    def test_a_late_way_out_is_found(self):
        # The ring loses 1 in each round. Only far below do its variables reach the time of 7.
        falling = ring(7, [59, 59, 59, -60, -59, -59, 0])[1]
        self.assertEqual(sum(rule[1][0][1] for rule in falling), -1)
        rules = (8, falling[:6] + ((6, ((0, 0), (7, -60))), (7, ((7, 0),))))
        self.check(rules)
        self.assertEqual(excluded(rules), ())
        self.assertEqual(excluded((8, rules[1] + ((7, ((7, -1),)),))), tuple(range(8)))


class PlainAnswers(unittest.TestCase):
    def test_small_rule_sets(self):
        draw = Draw(5)
        for size, low, high, many in ((1, -2, 1, 3), (2, -3, 2, 4), (2, -1, 0, 3), (3, -1, 1, 4), (3, -2, 1, 3)):
            for _ in range(60):
                rules = draw.rule_set(size, many, low, high)
                possible = plainly_possible(rules)
                self.assertEqual(excluded(rules), tuple(j for j in range(size) if j not in possible), rules)
                self.assertEqual(solve(rules)[0] == "times", len(possible) == size)

    def test_excluded_variables_are_those_of_the_refutations(self):
        draw = Draw(6)
        for size, many in ((1, 3), (2, 5), (3, 6), (4, 7), (5, 8)):
            for _ in range(30):
                rules = draw.rule_set(size, many, -4, 3, 2)
                self.assertEqual(excluded(rules), tuple(sorted(refuted_variables(rules))), rules)

    def test_possible_and_refuted_variables_are_all(self):
        draw = Draw(7)
        for _ in range(150):
            rules = draw.rule_set(3, 5, -1, 1, 2)
            possible, refuted = plainly_possible(rules), refuted_variables(rules)
            self.assertEqual((possible & refuted, possible | refuted), (set(), {0, 1, 2}))


class IsRefutation(unittest.TestCase):
    def test_wrong_values(self):
        for value in BAD_REFUTATIONS:
            with self.subTest(repr(value)[:60]):
                self.assertIs(is_refutation(T, value), False)

    def test_none_without_rules(self):
        for value in BAD_REFUTATIONS + (GOOD,):
            self.assertIs(is_refutation((2, ()), value), False)

    def test_rules_without_terms(self):
        for number in (0, -1, HUGE, -HUGE):
            self.assertIs(is_refutation((1, ((0, ()),)), ((0, 0, number),)), True)
        self.assertIs(is_refutation((1, ((0, ()),)), ((0, 0, True),)), False)
        self.assertIs(is_refutation((2, ((0, ()), (1, ()))), ((0, 0, HUGE), (1, 1, -HUGE))), True)

    def test_great_numbers(self):
        for by in (HUGE, -HUGE, 10 ** 59):
            self.assertIs(is_refutation(T, ((0, 0, by), (1, 1, by + 1))), True)
            self.assertIs(is_refutation(T, ((0, 0, by), (1, 1, by))), False)
            self.assertIs(is_refutation(T, ((0, 0, by), (1, 1, by + 2))), False)

    def test_each_inequality_counts(self):
        rules = (3, ((0, ((1, -5), (2, 3))), (1, ()), (2, ())))
        self.assertIs(is_refutation(rules, ((0, 0, 10), (1, 1, 24), (2, 2, 0))), True)
        self.assertIs(is_refutation(rules, ((0, 0, 9), (1, 1, 23), (2, 2, 0))), False)
        self.assertIs(is_refutation(rules, ((0, 0, 10), (1, 1, 25), (2, 2, 0))), False)
        self.assertIs(is_refutation(rules, ((0, 0, 99), (1, 1, 24))), False)
        self.assertIs(is_refutation(rules, ((0, 0, 99), (2, 2, 0))), False)
        self.assertIs(is_refutation(rules, ((1, 1, 0), (2, 2, -HUGE))), True)
        self.assertIs(is_refutation(rules, ((2, 2, HUGE),)), True)

    def test_number_of_triples_counts(self):
        # The numbers do for m = 2, but with a third triple they must be greater.
        rules = (3, ((0, ((1, 4),)), (1, ()), (2, ())))
        self.assertIs(is_refutation(rules, ((0, 0, 9), (1, 1, 0))), True)
        self.assertIs(is_refutation(rules, ((0, 0, 9), (1, 1, 0), (2, 2, 0))), False)
        self.assertIs(is_refutation(rules, ((0, 0, 13), (1, 1, 0), (2, 2, 0))), True)

    def test_by_the_words_of_the_document(self):
        draw = Draw(50)
        accepted = 0
        for _ in range(300):
            rules = draw.rule_set(3, 5, -2, 1, 2)
            refutation = split(rules)[1] or ((0, 0, 0), (1, 1, 0))
            for place in range(len(refutation)):
                for column in range(3):
                    for by in (-1, 0, 1):
                        triple = list(refutation[place])
                        triple[column] += by
                        value = refutation[:place] + (tuple(triple),) + refutation[place + 1:]
                        self.assertIs(is_refutation(rules, value), plainly_refutes(rules, value), (rules, value))
                        accepted += is_refutation(rules, value)
                value = refutation[:place] + refutation[place + 1:]
                self.assertIs(is_refutation(rules, value), plainly_refutes(rules, value), (rules, value))
        self.assertGreater(accepted, 300)

    def test_wrong_rules(self):
        for wrong in BAD_RULE_SETS:
            with self.subTest(repr(wrong)[:60]):
                self.assertRaises(InvalidRules, is_refutation, wrong, None)


class IsVerdict(unittest.TestCase):
    def test_right_ones(self):
        self.assertIs(is_verdict(T, ("refuted", GOOD)), True)
        self.assertIs(is_verdict(R, ("times", (2, -1, 3))), True)
        self.assertIs(is_verdict(R, ("times", shifted((2, -1, 3), HUGE))), True)
        self.assertIs(is_verdict((8, ()), ("times", (0,) * 8)), True)

    def test_times_that_are_no_solution(self):
        self.assertIs(is_verdict(R, ("times", (3, 0, 0))), False)
        for wrong in BAD_TIMES:
            with self.subTest(repr(wrong)[:60]):
                self.assertIs(is_verdict((2, ()), ("times", wrong)), False)

    def test_values_that_are_no_refutation(self):
        for wrong in BAD_REFUTATIONS:
            with self.subTest(repr(wrong)[:60]):
                self.assertIs(is_verdict(T, ("refuted", wrong)), False)

    def test_wrong_words_and_forms(self):
        for value in JUNK + (
            ["refuted", GOOD], ("refuted", GOOD, None), ("refuted",), ("times", GOOD), ("Refuted", GOOD), (True, GOOD),
            (b"refuted", GOOD), (("refuted",), GOOD), (["refuted"], GOOD), ({"refuted": 1}, GOOD), ("", GOOD),
            (None, GOOD), {"refuted": GOOD}, GOOD, ("refuted", list(GOOD)), (GOOD, "refuted"), (1, GOOD),
        ):
            with self.subTest(repr(value)[:60]):
                self.assertIs(is_verdict(T, value), False)

    def test_wrong_rules(self):
        for wrong in BAD_RULE_SETS:
            with self.subTest(repr(wrong)[:60]):
                self.assertRaises(InvalidRules, is_verdict, wrong, None)


class IsSplit(unittest.TestCase):
    S = (3, T[1])

    def test_right_ones(self):
        for value in (((None, None, 7), GOOD), ((None, None, -HUGE), GOOD), ((None, None, HUGE), GOOD)):
            self.assertIs(is_split(self.S, value), True)
        self.assertIs(is_split(T, ((None, None), GOOD)), True)
        self.assertIs(is_split(R, ((2, -1, 3), None)), True)
        self.assertIs(is_split((8, ()), ((HUGE,) * 8, None)), True)

    def test_refutation_has_exactly_the_variables_with_none(self):
        rules = (3, ((0, ()), (1, ())))
        both, one, other = ((0, 0, 0), (1, 1, 0)), ((0, 0, 0),), ((1, 1, 0),)
        for partial in product((None, 5), repeat=3):
            for refutation in (both, one, other, None, ()):
                wanted = partial == (None, None, 5) and refutation == both
                self.assertIs(is_split(rules, (partial, refutation)), wanted)

    def test_no_refutation_beside_a_solution(self):
        for refutation in ((), GOOD, False, 0, "", [], ((0, 0, 0),)):
            self.assertIs(is_split(R, ((2, -1, 3), refutation)), False)

    def test_partial_solution_is_checked(self):
        rules = (4, T[1] + ((2, ((0, 59), (3, -2))),))
        for partial in ((None, None, 0, 2), (None, None, -HUGE, HUGE), (None, None, HUGE - 2, HUGE)):
            self.assertIs(is_split(rules, (partial, GOOD)), True)
        for partial in ((None, None, 0, 1), (None, None, HUGE - 1, HUGE), (None, 0, 0, 9), (0, None, 0, 9),
                        (None, None, None, 2), (None, None, 0, None), (0, 0, 0, 9)):
            self.assertIs(is_split(rules, (partial, GOOD)), False)
        self.assertIs(is_split((1, ((0, ()),)), ((0,), None)), False)
        self.assertIs(is_split(R, ((3, 0, 0), None)), False)

    def test_wrong_partial_solutions(self):
        for wrong in BAD_TIMES + ((None, None), (None, None, 7, 7), [None, None, 7], (None, None, True),
                                  (None, None, "7"), (None, None, (7,)), (False, None, 7), (None, None, b"7")):
            with self.subTest(repr(wrong)[:60]):
                self.assertIs(is_split(self.S, (wrong, GOOD)), False)

    def test_wrong_refutations(self):
        for wrong in BAD_REFUTATIONS:
            with self.subTest(repr(wrong)[:60]):
                self.assertIs(is_split(self.S, ((None, None, 7), wrong)), False)

    def test_wrong_forms(self):
        partial = (None, None, 7)
        for value in JUNK + (
            [partial, GOOD], (partial, GOOD, None), (partial,), (GOOD, partial), {0: partial, 1: GOOD},
            ("split", partial, GOOD), (list(partial), GOOD), (partial, list(GOOD)),
        ):
            with self.subTest(repr(value)[:60]):
                self.assertIs(is_split(self.S, value), False)

    def test_wrong_rules(self):
        for wrong in BAD_RULE_SETS:
            with self.subTest(repr(wrong)[:60]):
                self.assertRaises(InvalidRules, is_split, wrong, None)


class WrongRules(unittest.TestCase):
    def test_solve_split_and_excluded(self):
        for wrong in BAD_RULE_SETS + NO_INTEGERS:
            with self.subTest(repr(wrong)[:60]):
                self.assertRaises(InvalidRules, solve, wrong)
                self.assertRaises(InvalidRules, split, wrong)
                self.assertRaises(InvalidRules, excluded, wrong)


class ResultsPassedOn(unittest.TestCase):
    def test_parts_of_results_are_accepted_as_values(self):
        for rules in (R, T, P):
            for value in (solve(rules), split(rules), solve(rules)[1], split(rules)[0], (solve(rules), split(rules))):
                for function in (is_refutation, is_verdict, is_split, is_solution):
                    self.assertIn(function(rules, value), (True, False))

    def test_very_great_integers(self):
        by = 10 ** 6000
        self.assertIs(is_verdict(R, ("times", shifted(solve(R)[1], by))), True)
        self.assertIs(is_split(R, (shifted(split(R)[0], -by), None)), True)


class Unchanged(unittest.TestCase):
    def test_arguments_stay(self):
        for function in (is_refutation, is_verdict, is_split):
            for value in ([GOOD], ["refuted", [list(GOOD)]], ([None, None], list(GOOD)), {1: [GOOD]}, nested(40)):
                before = copy.deepcopy(value)
                self.assertIs(function(T, value), False)
                self.assertEqual(value, before)

    def test_wrong_rules_stay(self):
        for function in (solve, split, excluded):
            for value in ([2, list(T[1])], {2: [T]}, nested(40)):
                before = copy.deepcopy(value)
                self.assertRaises(InvalidRules, function, value)
                self.assertEqual(value, before)

    def test_results_are_tuples_throughout(self):
        self.assertIsInstance(excluded(T), tuple)
        for rules in (R, T, P):
            for result in (solve(rules), split(rules)):
                self.assertIsInstance(result, tuple)
                for part in result:
                    self.assertIsInstance(part, (tuple, str, type(None)))
            for triple in split(rules)[1] or ():
                self.assertIsInstance(triple, tuple)


if __name__ == "__main__":
    unittest.main()
