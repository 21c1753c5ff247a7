import copy
import time
import unittest
from itertools import product

from latestof.errors import InvalidNumber, InvalidRules, InvalidTimes, TooLarge, UnknownVariable
from latestof.follow.follows import difference, follows
from latestof.rules.rules import is_rule_set
from latestof.rules.times import is_solution, shifted
from latestof.solve.solver import excluded
from latestof.without.elimination import (
    elimination_steps, extended, sources, steps_of, without, without_all, without_each,
)
from tests.plain import all_hold, plain_without
from tests.support import (
    BAD_RULE_SETS, BAD_TIMES, BAD_VARIABLES, HUGE, NO_INTEGERS, P, R, T, Draw, nested, ring, shown,
)

R_STEPS = [(3, ((0, ((2, -1),)), (2, ((0, 1),)))), (3, ())]


def small():
    draw = Draw(26)
    found = [(size, ()) for size in (1, 2, 3)] + [R, T, P]
    for size, many, low, high in ((1, 2, -1, 1), (2, 3, -1, 1), (2, 4, -2, 1), (3, 4, -1, 1), (3, 5, -2, 2), (3, 4, 0, 1)):
        found += [draw.rule_set(size, draw.between(1, many), low, high) for _ in range(20)]
    return found


def great():
    draw = Draw(27)
    found = []
    for low, high in ((-60, 59), (-30, 29), (-1, 1), (-30, 0), (0, 29)):
        for size in range(1, 9):
            for many in (4, 8, 14, 24):
                found.append(draw.rule_set(size, many, low, high, draw.between(1, 8)))
    return found


def crossed(own, others, delay=0):
    """Return a rule set whose rules of 0 and of others give own * others rules without 0."""
    lefts = [(1 + k % 6, ((0, delay + k // 6 * 7),)) for k in range(others)]
    return 8, tuple(lefts + [(0, ((7, k),)) for k in range(own)])


def wanted_error(rules):
    """Return the limit of the TooLarge that a loose result calls for, or None."""
    if len(rules[1]) > 24:
        return 24
    return None if all(-60 <= c <= 59 for _, terms in rules[1] for _, c in terms) else 60


class Examples(unittest.TestCase):
    def test_without_and_sources(self):
        self.assertEqual(without(R, 1), R_STEPS[0])
        self.assertEqual([sources(R, 1), without(T, 1), sources(T, 1)],
                         [((0, 1), (2, 1)), (2, ((0, ()),)), ((0, 1),)])

    def test_several(self):
        self.assertEqual([without_all(R, 1, 2), without_each(R, ()) == R], [(3, ()), True])
        self.assertEqual(list(elimination_steps(R, 1, 2)), R_STEPS)

    def test_extended(self):
        self.assertEqual(extended(R, 1, (0, 9, 1)), (0, -3, 1))


class Without(unittest.TestCase):
    def check(self, rules, variable):
        """Compare with the steps of the document; return the result or the limit of the error."""
        wanted, comes_from = plain_without(rules, variable)
        limit = wanted_error(wanted)
        if limit is not None:
            for function in (without, sources):
                with self.assertRaises(TooLarge) as caught:
                    function(rules, variable)
                self.assertEqual(caught.exception.limit, limit)
            return limit
        self.assertEqual(without(rules, variable), wanted, (rules, variable))
        self.assertEqual(sources(rules, variable), comes_from, (rules, variable))
        self.assertTrue(is_rule_set(wanted))
        return wanted

    def test_by_the_steps_of_the_document(self):
        kinds = set()
        for rules in small() + great():
            for variable in range(rules[0]):
                found = self.check(rules, variable)
                kinds.add(found if isinstance(found, int) else "rules")
        self.assertEqual(kinds, {"rules", 24, 60})

    def test_solutions_are_those_that_can_be_extended(self):
        for rules in small():
            for variable in range(rules[0]):
                left = without(rules, variable)
                for times in product(range(-2, 3), repeat=rules[0]):
                    some = any(all_hold(rules[1], times[:variable] + (x,) + times[variable + 1:]) for x in range(-5, 6))
                    self.assertEqual(is_solution(left, times), some, (rules, variable, times))

    def test_each_rule_that_is_left_follows_from_its_source(self):
        for rules in small():
            for variable in range(rules[0]):
                left = without(rules, variable)
                for rule, (index, other) in zip(left[1], sources(rules, variable), strict=True):
                    origin = (rules[1][index],) if other is None else (rules[1][index], rules[1][other])
                    if rule == (variable, ()):
                        self.assertIsNone(other)
                    self.assertIs(follows((rules[0], origin), rule), True)

    def test_variable_does_not_occur_any_more(self):
        for rules in small():
            for variable in range(rules[0]):
                left = without(rules, variable)
                self.assertNotIn(variable, [j for _, terms in left[1] for j, _ in terms])
                self.assertLessEqual({rule for rule in left[1] if rule[0] == variable}, {(variable, ())})

    def test_variable_without_a_rule(self):
        rules = (3, ((0, ((1, 5), (2, 5))), (2, ((0, 7),)), (2, ((1, -60),))))
        self.assertEqual(self.check(rules, 1), (3, ((2, ((0, 7),)),)))
        self.assertEqual(sources(rules, 1), ((1, None),))
        # The only rule of 1 always holds: it counts as none.
        self.assertEqual(self.check((3, rules[1] + ((1, ((0, 1), (1, 0))),)), 1), (3, ((2, ((0, 7),)),)))

    def test_variable_with_a_rule_without_terms(self):
        rules = (3, ((0, ((1, 5), (2, 5))), (1, ((1, -1),)), (2, ((1, 0),)), (1, ()), (1, ((2, 1),))))
        self.assertEqual(self.check(rules, 1), (3, ((0, ((2, 5),)), (0, ((2, 6),)), (2, ()), (1, ()))))
        self.assertEqual(sources(rules, 1), ((0, 1), (0, 4), (2, 1), (1, None)))
        self.assertEqual(self.check((1, ((0, ()), (0, ()))), 0), (1, ((0, ()),)))
        self.assertEqual(sources((1, ((0, ((0, -1),)), (0, ()))), 0), ((0, None),))

    def test_variable_removed_twice(self):
        for rules in small():
            for variable in range(rules[0]):
                once = without(rules, variable)
                self.assertEqual(self.check(once, variable), once)

    def test_equal_rules(self):
        rules = (3, ((0, ((2, 3),)), (0, ((1, 1),)), (1, ((2, 2),)), (0, ((1, 1),)), (1, ((2, 2),)), (0, ((2, 3),))))
        self.assertEqual(self.check(rules, 1), (3, ((0, ((2, 3),)),)))
        self.assertEqual(sources(rules, 1), ((0, None),))
        self.assertEqual(sources((3, rules[1][1:]), 1), ((0, 1),))
        # Two rules become equal when they are simplified.
        rules = (2, ((0, ((1, 2),)), (0, ((0, -1), (1, 2)))))
        self.assertEqual((without((3, rules[1]), 2), sources((3, rules[1]), 2)), ((3, rules[1][:1]), ((0, None),)))

    def test_greater_delay_counts(self):
        rules = (3, ((0, ((1, 5), (2, 9))), (1, ((2, 3),)), (1, ((2, 5),))))
        self.assertEqual(self.check(rules, 1), (3, ((0, ((2, 9),)), (0, ((2, 10),)))))

    def test_new_own_terms(self):
        rules = (3, ((0, ((1, 5), (2, 9))), (1, ((0, -5),)), (1, ((0, -6), (2, 1))), (1, ((2, 4),))))
        self.assertEqual(self.check(rules, 1), (3, ((0, ((2, 9),)),)))
        self.assertEqual(sources(rules, 1), ((0, 2),))

    def test_just_24_rules_and_one_more(self):
        self.assertEqual(len(self.check(crossed(4, 6), 0)[1]), 24)
        self.assertEqual(len(self.check(crossed(2, 12), 0)[1]), 24)
        self.assertEqual(self.check(crossed(5, 5), 0), 24)
        self.assertEqual(self.check(crossed(12, 12), 0), 24)
        rules = crossed(4, 6)
        self.assertEqual(self.check((8, rules[1] + ((1, ((2, 0),)),)), 0), 24)
        # Equal rules and rules that always hold do not count.
        self.assertEqual(len(self.check((8, rules[1] + ((1, ((7, 0),)), (2, ((2, 0),)), (3, ((7, 3),)))), 0)[1]), 24)
        self.assertEqual(len(self.check((8, rules[1] + ((0, ((7, 0),)),) * 12), 0)[1]), 24)
        for function in (without, sources):
            with self.assertRaises(TooLarge) as caught:
                function(crossed(5, 5), 0)
            self.assertEqual(caught.exception.limit, 24)

    def test_delays_at_the_limits_and_one_beyond(self):
        for one, other, wanted in ((30, 29, 59), (30, 30, 60), (-30, -30, -60), (-30, -31, -61), (59, -60, -1), (59, 59, 118)):
            rules = (3, ((0, ((1, one),)), (1, ((2, other),))))
            found = self.check(rules, 1)
            self.assertEqual(found, (3, ((0, ((2, wanted),)),)) if -60 <= wanted <= 59 else 60)

    def test_delays_that_do_not_stay_do_not_count(self):
        # A greater delay of the same variable, an own term, and a rule that always holds.
        self.assertEqual(self.check((3, ((0, ((1, -60), (2, 0))), (1, ((2, -60),)))), 1), (3, ((0, ((2, 0),)),)))
        self.assertEqual(self.check((3, ((0, ((1, -60), (2, 0))), (1, ((0, -60),)))), 1), (3, ((0, ((2, 0),)),)))
        self.assertEqual(self.check((3, ((0, ((1, 59),)), (1, ((0, 59),)))), 1), (3, ()))

    def test_too_many_rules_come_before_too_great_delays(self):
        self.assertEqual(self.check(crossed(5, 5, 59), 0), 24)
        self.assertEqual(self.check(crossed(4, 6, 56), 0)[1][-1][1], ((7, 59),))
        self.assertEqual(self.check(crossed(4, 6, 57), 0), 60)


class Several(unittest.TestCase):
    def test_one_after_another(self):
        for rules in small() + great():
            order = [k * 3 % rules[0] for k in range(rules[0] + 1)]
            wanted, steps, failure = rules, [], None
            for variable in order:
                try:
                    wanted = without(wanted, variable)
                except TooLarge as error:
                    failure = error.limit
                    break
                steps.append(wanted)
            for generator in (elimination_steps(rules, *order), steps_of(rules, tuple(order))):
                found = []
                if failure is None:
                    found = list(generator)
                else:
                    with self.assertRaises(TooLarge) as caught:
                        for step in generator:
                            found.append(step)
                    self.assertEqual(caught.exception.limit, failure)
                self.assertEqual(found, steps)
            if failure is None:
                self.assertEqual(without_all(rules, *order), wanted)
                self.assertEqual(without_each(rules, tuple(order)), wanted)
            else:
                for call in (lambda: without_all(rules, *order), lambda: without_each(rules, tuple(order))):
                    with self.assertRaises(TooLarge) as caught:
                        call()
                    self.assertEqual(caught.exception.limit, failure)

    def test_no_variables(self):
        rules = (2, ((0, ((0, 5),)), (0, ((0, -1), (1, 0)))))
        self.assertEqual([without_all(rules), without_each(rules, ())], [rules, rules])
        self.assertEqual([list(elimination_steps(rules)), list(steps_of(rules, ()))], [[], []])

    def test_variable_given_twice(self):
        self.assertEqual(without_all(R, 1, 1, 1), without(R, 1))
        self.assertEqual(list(steps_of(T, (1, 1, 0, 1))), [(2, ((0, ()),))] * 4)

    def test_all_variables(self):
        for rules in small():
            left = without_all(rules, *range(rules[0]))
            self.assertEqual(left[1] == (), excluded(rules) == ())
            self.assertIsNone(difference(left, rules if excluded(rules) else (rules[0], ())))

    def test_removal_is_reached_late(self):
        # The rules of 7 are removed without harm; then 0 is too much.
        rules = (8, crossed(5, 5)[1][:5] + tuple((0, ((6, k),)) for k in range(5)))
        steps = elimination_steps(rules, 7, 1, 0, 3)
        self.assertEqual(next(steps), rules)
        self.assertEqual(next(steps), (8, rules[1][1:]))
        steps = elimination_steps(rules, 7, 0)
        self.assertEqual(next(steps), rules)
        with self.assertRaises(TooLarge) as caught:
            next(steps)
        self.assertEqual(caught.exception.limit, 24)

    def test_two_generators_do_not_disturb_each_other(self):
        one, other = elimination_steps(R, 1, 2), steps_of(R, (1, 2))
        self.assertEqual([next(one), next(other), next(one), next(other)], [R_STEPS[0]] * 2 + [R_STEPS[1]] * 2)
        self.assertEqual(list(one) + list(other), [])


class Extended(unittest.TestCase):
    def check(self, rules, variable, times):
        found = extended(rules, variable, times)
        self.assertIs(is_solution(rules, found), True, (rules, variable, times))
        self.assertEqual(found[:variable] + found[variable + 1:], times[:variable] + times[variable + 1:])
        self.assertEqual(extended(rules, variable, times), found)
        return found

    def test_exactly_if_the_rules_without_the_variable_hold(self):
        tried = set()
        for rules in small():
            for variable in range(rules[0]):
                left = without(rules, variable)
                for times in product(range(-2, 3), repeat=rules[0]):
                    if is_solution(left, times):
                        self.check(rules, variable, times)
                    else:
                        self.assertRaises(InvalidTimes, extended, rules, variable, times)
                    tried.add(is_solution(left, times))
        self.assertEqual(tried, {True, False})

    def test_great_rule_sets(self):
        draw = Draw(28)
        tried = set()
        for rules in great():
            for variable in range(rules[0]):
                times = tuple(draw.between(-20, 20) for _ in range(rules[0]))
                left, _ = plain_without(rules, variable)
                tried.add(all_hold(left[1], times))
                if all_hold(left[1], times):
                    self.check(rules, variable, times)
                else:
                    self.assertRaises(InvalidTimes, extended, rules, variable, times)
        self.assertEqual(tried, {True, False})

    def test_particular_ones(self):
        self.check((1, ()), 0, (HUGE,))
        self.check((2, ((0, ((1, -60),)),)), 1, (HUGE, 0))
        self.check((2, ((1, ((0, -60),)),)), 1, (-HUGE, HUGE))
        self.check((2, ((1, ((0, 3), (1, -1))), (0, ((1, -3),)))), 1, (5, 0))
        self.assertEqual(self.check(R, 1, shifted((0, 9, 1), HUGE)), shifted((0, -3, 1), HUGE))
        self.assertRaises(InvalidTimes, extended, (1, ((0, ()),)), 0, (0,))
        self.assertRaises(InvalidTimes, extended, (2, ((1, ((0, 3),)), (1, ((1, -1),)))), 1, (0, 0))
        self.assertRaises(InvalidTimes, extended, (2, ((0, ()),)), 1, (0, 0))
        self.assertRaises(InvalidTimes, extended, T, 0, (0, 0))

    def test_wrong_times(self):
        for wrong in BAD_TIMES:
            with self.subTest(shown(wrong)):
                self.assertRaises(InvalidTimes, extended, (2, ()), 0, wrong)


class Errors(unittest.TestCase):
    def test_wrong_rules_come_first(self):
        for wrong in BAD_RULE_SETS + NO_INTEGERS:
            with self.subTest(shown(wrong)):
                for call in (lambda: without(wrong, None), lambda: sources(wrong, None), lambda: without_all(wrong, None),
                             lambda: without_all(wrong), lambda: without_each(wrong, None),
                             lambda: next(elimination_steps(wrong, None)), lambda: next(elimination_steps(wrong)),
                             lambda: next(steps_of(wrong, None)), lambda: extended(wrong, None, None)):
                    self.assertRaises(InvalidRules, call)

    def test_then_wrong_variables(self):
        for wrong in BAD_VARIABLES:
            for call in (lambda: without(R, wrong), lambda: sources(R, wrong), lambda: without_all(R, wrong, -9),
                         lambda: without_all(R, 0, 1, wrong), lambda: without_each(R, (wrong, HUGE)),
                         lambda: next(elimination_steps(R, 0, wrong)), lambda: next(steps_of(R, (0, wrong, True))),
                         lambda: extended(R, wrong, None)):
                with self.subTest(shown(wrong)), self.assertRaises(UnknownVariable) as caught:
                    call()
                self.assertIs(caught.exception.variable, wrong)

    def test_wrong_variables_come_before_too_large_results(self):
        for call in (lambda: without_all(crossed(5, 5), 0, 8), lambda: next(steps_of(crossed(5, 5), (0, 8)))):
            self.assertRaises(UnknownVariable, call)

    def test_variables_that_are_no_tuple(self):
        for wrong in (None, True, 0, 1, [0], [], {}, {0: 1}, "", "01", b"\x00", HUGE):
            for call in (lambda: without_each(R, wrong), lambda: next(steps_of(R, wrong))):
                with self.subTest(shown(wrong)), self.assertRaises(InvalidNumber) as caught:
                    call()
                self.assertIs(caught.exception.value, wrong)

    def test_arguments_stay(self):
        for value in ([0, 1], {0: [1]}, nested(40)):
            before = copy.deepcopy(value)
            self.assertRaises(UnknownVariable, without, R, value)
            self.assertRaises(InvalidTimes, extended, R, 0, value)
            if not isinstance(value, tuple):
                self.assertRaises(InvalidNumber, without_each, R, value)
            self.assertEqual(value, before)


class Quick(unittest.TestCase):
    def test_eight_variables_and_24_rules(self):
        draw = Draw(29)
        sets = [draw.rule_set(8, 24, low, high) for low, high in ((-60, 59), (-60, -60), (59, 59), (-60, 0))
                for _ in range(20)] + [crossed(12, 12), ring(8, [59, -60] * 4)]
        start = time.process_time()
        for rules in sets:
            try:
                without(rules, 0)
            except TooLarge:
                pass
            try:
                extended(rules, 0, (0,) * 8)
            except InvalidTimes:
                pass
        self.assertLess(time.process_time() - start, 0.01 * len(sets))


if __name__ == "__main__":
    unittest.main()
