import copy
import unittest
from itertools import product

from latestof.errors import InvalidNumber, InvalidRules, TooLarge
from latestof.rules import rules as module
from latestof.rules.rules import (
    is_rule, is_rule_set, make_rules, merged, merged_all, negation, rules_from, simplified, with_delay,
)
from tests.support import BAD_RULE_SETS, BAD_SIZES, HUGE, JUNK, NO_INTEGERS, R, T, Draw, nested, plainly_holds

# Each differs from a rule of size 2 in one part.
BAD_RULES = JUNK + tuple(part[1][0] for part in (
    (2, ((2, ()),)), (2, ((-1, ()),)), (2, ((True, ()),)), (2, ((None, ()),)), (2, (("0", ()),)), (2, (({}, ()),)),
    (2, ((0, []),)), (2, ((0, None),)), (2, ((0, ""),)), (2, ((0, b""),)), (2, ((0, {}),)), (2, ((0, (), ()),)),
    (2, ([0, ()],)), (2, ((0, (None,)),)), (2, ((0, (0, 1)),)), (2, ((0, ([1, 0],)),)), (2, ((0, ((1, 0, 0),)),)),
    (2, ((0, ((2, 0),)),)), (2, ((0, ((-1, 0),)),)), (2, ((0, ((True, 0),)),)), (2, ((0, ((1, False),)),)),
    (2, ((0, ((1, 60),)),)), (2, ((0, ((1, -61),)),)), (2, ((0, ((1, HUGE),)),)), (2, ((0, ((1, None),)),)),
    (2, ((0, ((1, "0"),)),)), (2, ((0, ((1, [0]),)),)), (2, ((0, (([], 0),)),)), (2, ((0, (({}, 0),)),)),
))
MISPLACED = ((0, ((1, 0), (0, 0))), (0, ((1, 0), (1, 1))), (1, ((0, 0), (0, 0))))
# These are rules of a greater size only.
TOO_HIGH = ((2, ()), (7, ((0, 0),)), (0, ((2, 0),)), (0, ((0, 0), (7, 0))))


class Examples(unittest.TestCase):
    def test_is_rule_and_is_rule_set(self):
        self.assertEqual(
            [is_rule(2, (0, ((1, 59),))), is_rule(2, (0, ((1, 0), (0, 0)))), is_rule(2, (0, ())),
             is_rule_set((3, R[1])), is_rule_set((2, R[1]))],
            [True, False, True, True, False])

    def test_make_rules(self):
        self.assertEqual(
            make_rules(2, (0, ((1, 3), (0, -2), (1, 5))), (1, ())), (2, ((0, ((0, -2), (1, 5))), (1, ()))))

    def test_merged(self):
        self.assertEqual(
            merged((1, ()), (1, ((0, ()),)), (1, ((0, ((0, 1),)),))), (1, ((0, ()), (0, ((0, 1),)))))

    def test_negation(self):
        self.assertEqual(negation(3, (0, ((1, 2), (2, -1)))), (3, ((1, ((0, -3),)), (2, ((0, 0),)))))

    def test_simplified(self):
        given = (2, ((0, ((0, 0), (1, -4))), (1, ((0, 5), (1, -1))), (1, ((1, -1),))))
        self.assertEqual(simplified(given), (2, ((1, ((0, 5),)), (1, ()))))

    def test_with_delay(self):
        self.assertEqual(with_delay(T, -3), (2, ((0, ((1, -4),)), (1, ((0, -3),)), (1, ((0, -1),)))))


class Constants(unittest.TestCase):
    def test_values(self):
        self.assertEqual((module.MAX_VARIABLES, module.MAX_RULES, module.MAX_DELAY), (8, 24, 60))


class IsRule(unittest.TestCase):
    def test_rules(self):
        for size in range(1, 9):
            self.assertIs(is_rule(size, (0, ())), True)
            self.assertIs(is_rule(size, (size - 1, tuple((k, -60) for k in range(size)))), True)
            self.assertIs(is_rule(size, (size - 1, ((size - 1, 59),))), True)
            self.assertIs(is_rule(size, (size, ())), False)
            self.assertIs(is_rule(size, (0, ((size, 0),))), False)

    def test_terms_may_leave_variables_out(self):
        self.assertTrue(is_rule(8, (3, ((1, 0), (3, 59), (7, -60)))))

    def test_wrong_rules(self):
        for value in BAD_RULES + MISPLACED + TOO_HIGH:
            with self.subTest(repr(value)[:60]):
                self.assertIs(is_rule(2, value), False)

    def test_delays(self):
        for delay in range(-62, 62):
            self.assertIs(is_rule(1, (0, ((0, delay),))), -60 <= delay <= 59)

    def test_wrong_sizes(self):
        for size in BAD_SIZES:
            with self.subTest(repr(size)[:60]), self.assertRaises(InvalidNumber) as caught:
                is_rule(size, None)
            self.assertIs(caught.exception.value, size)


class IsRuleSet(unittest.TestCase):
    def test_rule_sets(self):
        for value in (R, T, (1, ()), (8, ()), (3, R[1] * 8), (3, tuple(reversed(R[1]))), (8, R[1])):
            self.assertIs(is_rule_set(value), True)

    def test_wrong_values(self):
        for value in BAD_RULE_SETS:
            with self.subTest(repr(value)[:60]):
                self.assertIs(is_rule_set(value), False)

    def test_number_of_rules(self):
        for many in (0, 1, 23, 24, 25, 26, 100):
            self.assertIs(is_rule_set((2, T[1][:1] * many)), many <= 24)

    def test_sizes(self):
        for size in range(-2, 12):
            self.assertIs(is_rule_set((size, ())), 1 <= size <= 8)

    def test_wrong_rule_at_any_place(self):
        for place in range(4):
            for wrong in BAD_RULES + MISPLACED:
                rules = T[1][:place] + (wrong,) + T[1][place:]
                self.assertIs(is_rule_set((2, rules)), False)


class MakeRules(unittest.TestCase):
    def test_no_rules(self):
        self.assertEqual(make_rules(8), (8, ()))
        self.assertEqual(rules_from(1, ()), (1, ()))

    def test_rules_from_takes_a_tuple(self):
        self.assertEqual(rules_from(3, R[1]), R)
        self.assertEqual(make_rules(3, *R[1]), R)

    def test_terms_are_ordered_and_the_greatest_delay_counts(self):
        for delays in product((-60, -1, 0, 59), repeat=3):
            given = (1, ((1, delays[0]), (0, 7), (1, delays[1]), (1, delays[2]), (0, 7)))
            self.assertEqual(make_rules(2, given), (2, ((1, ((0, 7), (1, max(delays)))),)))

    def test_many_terms_of_the_same_variable(self):
        given = (0, tuple((0, delay) for delay in range(-60, 60)) * 3)
        self.assertEqual(make_rules(1, given), (1, ((0, ((0, 59),)),)))

    def test_order_and_repeats_of_rules_stay(self):
        given = ((1, ((0, 1),)), (0, ()), (1, ((0, 1),)))
        self.assertEqual(rules_from(2, given), (2, given))

    def test_wrong_sizes_come_first(self):
        for size in BAD_SIZES:
            for call in (lambda: make_rules(size, None), lambda: rules_from(size, None)):
                with self.subTest(repr(size)[:60]), self.assertRaises(InvalidNumber) as caught:
                    call()
                self.assertIs(caught.exception.value, size)

    def test_wrong_rules(self):
        for wrong in BAD_RULES + TOO_HIGH:
            with self.subTest(repr(wrong)[:60]):
                self.assertRaises(InvalidRules, make_rules, 2, wrong)
                self.assertRaises(InvalidRules, make_rules, 2, T[1][0], wrong)
                self.assertRaises(InvalidRules, rules_from, 2, (wrong, T[1][0]))

    def test_a_term_that_does_not_count_must_be_right_too(self):
        self.assertRaises(InvalidRules, make_rules, 2, (0, ((1, 0), (1, -61))))
        self.assertRaises(InvalidRules, make_rules, 2, (0, ((1, -60), (1, False))))

    def test_rules_from_takes_nothing_but_a_tuple(self):
        for wrong in NO_INTEGERS + (0, 24, HUGE):
            if wrong != ():
                self.assertRaises(InvalidRules, rules_from, 2, wrong)
        self.assertRaises(InvalidRules, rules_from, 2, list(T[1]))
        self.assertRaises(InvalidRules, rules_from, 2, {T[1][0]: 1})
        self.assertRaises(InvalidRules, make_rules, 2, T[1])

    def test_at_most_24_rules(self):
        self.assertEqual(len(make_rules(2, *[(0, ())] * 24)[1]), 24)
        for call in (lambda: make_rules(2, *[(0, ())] * 25), lambda: rules_from(2, ((0, ()),) * 90)):
            with self.assertRaises(TooLarge) as caught:
                call()
            self.assertEqual(caught.exception.limit, 24)

    def test_too_large_comes_last(self):
        self.assertRaises(InvalidRules, make_rules, 2, *[(0, ())] * 30, (2, ()))
        self.assertRaises(InvalidNumber, make_rules, 9, *[(0, ())] * 30)


class Merged(unittest.TestCase):
    def test_one_and_several(self):
        self.assertEqual(merged(R), R)
        self.assertEqual(merged_all((R,)), R)
        self.assertEqual(merged(T, (2, ()), T), (2, T[1] + T[1]))
        self.assertEqual(merged_all(((2, ()), T, (2, T[1][:1]))), (2, T[1] + T[1][:1]))
        self.assertEqual(merged_all(((8, ()),) * 40), (8, ()))

    def test_wrong_rule_sets(self):
        for wrong in BAD_RULE_SETS:
            with self.subTest(repr(wrong)[:60]):
                self.assertRaises(InvalidRules, merged, wrong)
                self.assertRaises(InvalidRules, merged, T, wrong)
                self.assertRaises(InvalidRules, merged, wrong, T)
                self.assertRaises(InvalidRules, merged_all, (T, T, wrong))

    def test_different_sizes(self):
        self.assertRaises(InvalidRules, merged, (2, ()), (3, ()))
        self.assertRaises(InvalidRules, merged, (3, ()), (3, ()), (2, ()))
        self.assertRaises(InvalidRules, merged_all, ((1, ()), (8, ())))

    def test_merged_all_takes_a_tuple_of_one_or_more(self):
        for wrong in NO_INTEGERS + (0, HUGE, [T], [T, T], {T: T}, T, (T, [T])):
            self.assertRaises(InvalidRules, merged_all, wrong)

    def test_at_most_24_rules(self):
        eight = (2, ((0, ()),) * 8)
        self.assertEqual(merged(eight, eight, eight), (2, ((0, ()),) * 24))
        for call in (lambda: merged(eight, eight, eight, T), lambda: merged_all((eight,) * 3 + ((2, ((1, ()),)),))):
            with self.assertRaises(TooLarge) as caught:
                call()
            self.assertEqual(caught.exception.limit, 24)

    def test_too_large_comes_last(self):
        full = (2, ((0, ()),) * 24)
        self.assertRaises(InvalidRules, merged, full, full, None)
        self.assertRaises(InvalidRules, merged, full, full, (3, ()))
        self.assertRaises(InvalidRules, merged_all, (full, full, (2, ((0, ()),) * 25)))


class Negation(unittest.TestCase):
    def test_no_terms_and_all_terms(self):
        self.assertEqual(negation(1, (0, ())), (1, ()))
        self.assertEqual(negation(1, (0, ((0, 0),))), (1, ((0, ((0, -1),)),)))
        full = (3, tuple((k, 59 - k) for k in range(8)))
        self.assertEqual(negation(8, full), (8, tuple((k, ((3, k - 60),)) for k in range(8))))

    def test_delays_stay_within_the_limits(self):
        for delay in range(-60, 60):
            found = negation(2, (0, ((1, delay),)))
            self.assertTrue(is_rule_set(found))
            self.assertEqual(found, (2, ((1, ((0, -delay - 1),)),)))

    def test_solutions_are_the_times_for_which_the_rule_does_not_hold(self):
        draw = Draw(12)
        for _ in range(60):
            rule = draw.rule(3, -3, 2, 3)
            against = negation(3, rule)[1]
            for times in product(range(-3, 4), repeat=3):
                self.assertNotEqual(plainly_holds(rule, times), all(plainly_holds(one, times) for one in against))

    def test_wrong_sizes_come_first(self):
        for size in BAD_SIZES:
            with self.subTest(repr(size)[:60]), self.assertRaises(InvalidNumber) as caught:
                negation(size, None)
            self.assertIs(caught.exception.value, size)

    def test_wrong_rules(self):
        for wrong in BAD_RULES + MISPLACED + TOO_HIGH:
            with self.subTest(repr(wrong)[:60]):
                self.assertRaises(InvalidRules, negation, 2, wrong)


class Simplified(unittest.TestCase):
    def test_nothing_to_do(self):
        for rules in (R, T, (1, ()), (8, ()), (2, ((0, ()), (0, ())))):
            self.assertEqual(simplified(rules), rules)

    def test_own_terms(self):
        for delay in range(-60, 60):
            kept = () if delay >= 0 else ((1, ((0, 3), (2, 4))),)
            self.assertEqual(simplified((3, ((1, ((0, 3), (1, delay), (2, 4))),))), (3, kept))

    def test_order_and_repeats_stay(self):
        given = (2, ((1, ((0, 1),)), (0, ((0, 9),)), (0, ((0, -9), (1, 1))), (1, ((0, 1),))))
        self.assertEqual(simplified(given), (2, ((1, ((0, 1),)), (0, ((1, 1),)), (1, ((0, 1),)))))

    def test_same_solutions(self):
        draw = Draw(3)
        for _ in range(80):
            given = draw.rule_set(3, 3, -2, 1, 3)
            found = simplified(given)
            self.assertTrue(is_rule_set(found))
            for times in product(range(-2, 3), repeat=3):
                self.assertEqual(all(plainly_holds(rule, times) for rule in given[1]),
                                 all(plainly_holds(rule, times) for rule in found[1]))

    def test_wrong_rules(self):
        for wrong in BAD_RULE_SETS:
            with self.subTest(repr(wrong)[:60]):
                self.assertRaises(InvalidRules, simplified, wrong)


class WithDelay(unittest.TestCase):
    def test_ordinary(self):
        self.assertEqual(with_delay(R, 0), R)
        self.assertEqual(with_delay((2, ((0, ()), (1, ((0, 3), (1, -4))))), 5), (2, ((0, ()), (1, ((0, 8), (1, 1))))))

    def test_without_terms_every_amount_will_do(self):
        for amount in (HUGE, -HUGE):
            self.assertEqual(with_delay((8, ((0, ()),)), amount), (8, ((0, ()),)))
            self.assertEqual(with_delay((8, ()), amount), (8, ()))

    def test_limits(self):
        given = (2, ((0, ((0, -50), (1, 49))),))
        self.assertEqual(with_delay(given, 10), (2, ((0, ((0, -40), (1, 59))),)))
        self.assertEqual(with_delay(given, -10), (2, ((0, ((0, -60), (1, 39))),)))
        for amount in (11, -11, HUGE, -HUGE):
            with self.assertRaises(TooLarge) as caught:
                with_delay(given, amount)
            self.assertEqual(caught.exception.limit, 60)

    def test_any_rule_and_term_can_be_too_large(self):
        self.assertRaises(TooLarge, with_delay, (2, ((0, ((0, 59), (1, 0))), (1, ((0, 0),)))), 1)
        self.assertRaises(TooLarge, with_delay, (2, ((0, ((0, 0),)), (1, ((0, 0), (1, 59))))), 1)

    def test_wrong_amounts(self):
        for amount in NO_INTEGERS:
            for rules in (R, (1, ())):
                with self.subTest(repr(amount)[:60]), self.assertRaises(InvalidNumber) as caught:
                    with_delay(rules, amount)
                self.assertIs(caught.exception.value, amount)

    def test_wrong_rules_come_first(self):
        for wrong in BAD_RULE_SETS:
            with self.subTest(repr(wrong)[:60]):
                self.assertRaises(InvalidRules, with_delay, wrong, None)


class Unchanged(unittest.TestCase):
    def test_arguments_stay_and_results_repeat(self):
        deep = nested(39)
        calls = (
            (is_rule, 2, [0, [[1, 2]]]), (is_rule_set, [3, [[0, []]]]), (make_rules, 2, (0, ((1, 3), (0, 1)))),
            (make_rules, 2, [0, []]), (rules_from, 2, [[0, [[1, 2]]]]), (merged, T, [2, []]), (merged_all, [T, T]),
            (negation, 2, [0, [[1, 1]]]), (simplified, [2, [[0, []]]]), (with_delay, T, {1: [2]}), (simplified, deep),
        )
        for function, *given in calls:
            before = copy.deepcopy(given)
            outcomes = []
            for _ in range(2):
                try:
                    outcomes.append(function(*given))
                except (InvalidRules, InvalidNumber) as error:
                    outcomes.append(error.__class__)
            self.assertEqual(given, before)
            self.assertEqual(outcomes[0], outcomes[1])

    def test_results_are_tuples_throughout(self):
        results = (make_rules(2, (0, ((1, 3),))), rules_from(2, T[1]), merged(T, T), merged_all((T,)),
                   negation(2, T[1][0]), simplified(T), with_delay(T, 1))
        for result in results:
            self.assertTrue(is_rule_set(result), result)


if __name__ == "__main__":
    unittest.main()
