import copy
import time
import unittest
from itertools import product

from latestof.errors import InvalidNumber, InvalidRules, InvalidTimes, TooLarge
from latestof.rules import times as module
from latestof.rules.times import (
    broken_rules, greatest_of, greatest_of_all, is_solution, is_times, right_side, shifted, solutions_between,
)
from tests.support import BAD_RULE_SETS, BAD_SIZES, BAD_TIMES, HUGE, NO_INTEGERS, R, T, Draw, nested, plainly_holds

# These are not times of any size.
NO_TIMES = tuple(value for value in BAD_TIMES if value not in ((0,), (0, 0, 0)))
BAD_BOUNDS = NO_INTEGERS + (-201, 201, HUGE, -HUGE)
# For each size the greatest number of values of which there are at most 20000 times.
WIDTHS = ((1, 401), (2, 141), (3, 27), (4, 11), (5, 7), (6, 5), (7, 4), (8, 3))


def plainly_between(rules, low, high):
    """Return the solutions with times from low to high: tries all of them one by one."""
    return [times for times in product(range(low, high + 1), repeat=rules[0])
            if all(plainly_holds(rule, times) for rule in rules[1])]


def drawn_with_additions():
    """Return rule sets of one to four variables, as drawn and with rules that hold never or always."""
    draw = Draw(41)
    found = []
    for size in range(1, 5):
        found.append((size, ()))
        for low, high in ((-3, 2), (-1, 1), (-1, 0), (0, 3), (-60, 59)):
            for _ in range(8):
                size, listed = draw.rule_set(size, draw.between(1, 5), low, high, 3)
                left = draw.below(size)
                never = (left, ())
                always = (left, ((left, draw.between(0, 59)),))
                at = draw.below(len(listed) + 1)
                found.append((size, listed))
                found.append((size, listed[:at] + (never,) + listed[at:]))
                found.append((size, listed[:at] + (always,) + listed[at:]))
                found.append((size, tuple(rule for rule in listed if rule[1]) + (always, always)))
    return found


class Examples(unittest.TestCase):
    def test_is_times_and_is_solution(self):
        self.assertEqual(
            [is_times(2, (0, -10 ** 50)), is_times(2, (0,)), is_solution(R, (2, -1, 3)), is_solution(R, (3, 0, 0))],
            [True, False, True, False])

    def test_right_side_and_broken_rules(self):
        self.assertEqual(
            [right_side(R, 0, (3, 0, 0)), right_side((1, ((0, ()),)), 0, (7,)), broken_rules(R, (3, 1, 6)),
             broken_rules(R, (2, -1, 3))],
            [2, None, (1, 2), ()])

    def test_shifted_and_greatest_of(self):
        self.assertEqual(
            [shifted((1, -2), 10), greatest_of((1, 5), (3, 2), (0, 4)), greatest_of_all(((1, 5),))],
            [(11, 8), (3, 5), (1, 5)])

    def test_solutions_between(self):
        self.assertEqual(list(solutions_between((2, ((0, ((1, -1),)),)), 0, 2)), [(0, 1), (0, 2), (1, 2)])


class Constants(unittest.TestCase):
    def test_values(self):
        self.assertEqual((module.MAX_BOUND, module.MAX_LISTED), (200, 20000))


class IsTimes(unittest.TestCase):
    def test_sizes(self):
        for size in range(1, 9):
            for length in range(0, 11):
                self.assertIs(is_times(size, (-HUGE,) * length), size == length)

    def test_wrong_times(self):
        for value in BAD_TIMES:
            with self.subTest(repr(value)[:60]):
                self.assertIs(is_times(2, value), False)

    def test_wrong_sizes(self):
        for size in BAD_SIZES:
            with self.subTest(repr(size)[:60]), self.assertRaises(InvalidNumber) as caught:
                is_times(size, (0,))
            self.assertIs(caught.exception.value, size)


class IsSolution(unittest.TestCase):
    def test_by_the_words_of_the_document(self):
        draw = Draw(8)
        for _ in range(60):
            rules = draw.rule_set(3, draw.between(0, 4), -2, 2, 3)
            for times in product(range(-1, 3), repeat=3):
                wanted = all(plainly_holds(rule, times) for rule in rules[1])
                self.assertIs(is_solution(rules, times), wanted)

    def test_no_rules_and_no_terms(self):
        for size in range(1, 9):
            self.assertIs(is_solution((size, ()), (HUGE,) * size), True)
            self.assertIs(is_solution((size, ((size - 1, ()),)), (0,) * size), False)

    def test_great_times(self):
        self.assertIs(is_solution(R, (HUGE, HUGE - 3, HUGE + 1)), True)
        self.assertIs(is_solution(R, (HUGE, HUGE - 2, HUGE + 1)), False)
        self.assertIs(is_solution((2, ((0, ((1, 59),)),)), (HUGE + 59, HUGE)), True)
        self.assertIs(is_solution((2, ((0, ((1, 59),)),)), (HUGE + 60, HUGE)), False)
        self.assertIs(is_solution((2, ((0, ((1, -60),)),)), (-HUGE - 60, -HUGE)), True)
        self.assertIs(is_solution((2, ((0, ((1, -60),)),)), (-HUGE - 59, -HUGE)), False)

    def test_wrong_values(self):
        for value in BAD_TIMES:
            with self.subTest(repr(value)[:60]):
                self.assertIs(is_solution((2, ()), value), False)

    def test_wrong_rules(self):
        for wrong in BAD_RULE_SETS:
            with self.subTest(repr(wrong)[:60]):
                self.assertRaises(InvalidRules, is_solution, wrong, (0,))


class RightSide(unittest.TestCase):
    def test_greatest_sum_of_the_terms(self):
        self.assertEqual([right_side(R, index, (10, 20, 30)) for index in range(3)], [29, 7, 24])
        self.assertEqual(right_side(R, 0, (HUGE, HUGE, -HUGE)), HUGE + 2)

    def test_eight_terms(self):
        rules = (8, ((0, tuple((k, 59 - k) for k in range(8))),))
        for k in range(8):
            times = tuple(100 if j == k else 0 for j in range(8))
            self.assertEqual(right_side(rules, 0, times), 159 - k)

    def test_rule_holds_if_its_left_is_at_most_the_right_side(self):
        for times in product(range(-1, 3), repeat=3):
            late = [k for k in range(3) if times[R[1][k][0]] > right_side(R, k, times)]
            self.assertEqual(broken_rules(R, times), tuple(late))

    def test_wrong_indices(self):
        for rules, index in [(R, wrong) for wrong in NO_INTEGERS + (-1, 3, HUGE, -HUGE)] + [((1, ()), 0)]:
            with self.subTest(repr(index)[:60]), self.assertRaises(InvalidNumber) as caught:
                right_side(rules, index, None)
            self.assertIs(caught.exception.value, index)

    def test_wrong_rules_come_first_and_wrong_times_last(self):
        for wrong in BAD_RULE_SETS:
            with self.subTest(repr(wrong)[:60]):
                self.assertRaises(InvalidRules, right_side, wrong, None, None)
        for wrong in BAD_TIMES:
            with self.subTest(repr(wrong)[:60]):
                self.assertRaises(InvalidTimes, right_side, T, 2, wrong)
        self.assertRaises(InvalidTimes, right_side, (2, ((0, ()),)), 0, (0,))


class BrokenRules(unittest.TestCase):
    def test_by_the_words_of_the_document(self):
        draw = Draw(9)
        for _ in range(60):
            rules = draw.rule_set(8, 24, -60, 59)
            times = tuple(draw.between(-90, 90) for _ in range(8))
            wanted = tuple(k for k in range(24) if not plainly_holds(rules[1][k], times))
            self.assertEqual(broken_rules(rules, times), wanted)

    def test_no_rules_and_no_terms(self):
        self.assertEqual(broken_rules((1, ()), (0,)), ())
        self.assertEqual(broken_rules((1, ((0, ()),) * 24), (0,)), tuple(range(24)))

    def test_wrong_arguments(self):
        for wrong in BAD_RULE_SETS:
            with self.subTest(repr(wrong)[:60]):
                self.assertRaises(InvalidRules, broken_rules, wrong, None)
        for wrong in BAD_TIMES:
            with self.subTest(repr(wrong)[:60]):
                self.assertRaises(InvalidTimes, broken_rules, T, wrong)
        self.assertRaises(InvalidTimes, broken_rules, (2, ()), (0, 0, 0))


class Shifted(unittest.TestCase):
    def test_ordinary(self):
        self.assertEqual(shifted((0,), 0), (0,))
        self.assertEqual(shifted((HUGE, 1), -HUGE), (0, 1 - HUGE))
        self.assertEqual(shifted(tuple(range(8)), -3), tuple(range(-3, 5)))

    def test_solutions_stay_solutions(self):
        draw = Draw(21)
        for _ in range(100):
            rules = draw.rule_set(3, 3, -2, 2, 3)
            times = tuple(draw.between(-3, 3) for _ in range(3))
            for by in (-HUGE, -1, 7, HUGE):
                self.assertEqual(is_solution(rules, times), is_solution(rules, shifted(times, by)))

    def test_wrong_times_come_first(self):
        for wrong in NO_TIMES:
            with self.subTest(repr(wrong)[:60]):
                self.assertRaises(InvalidTimes, shifted, wrong, None)

    def test_wrong_numbers(self):
        for by in NO_INTEGERS:
            with self.subTest(repr(by)[:60]), self.assertRaises(InvalidNumber) as caught:
                shifted((0, 0), by)
            self.assertIs(caught.exception.value, by)


class GreatestOf(unittest.TestCase):
    def test_ordinary(self):
        self.assertEqual(greatest_of((3,)), (3,))
        self.assertEqual(greatest_of((1, -HUGE), (-HUGE, 1)), (1, 1))
        self.assertEqual(greatest_of(*[tuple(9 if j == k else 0 for j in range(8)) for k in range(8)]), (9,) * 8)
        self.assertEqual(greatest_of_all(((-5, -6), (-7, -2), (-9, -9))), (-5, -2))

    def test_greatest_of_solutions_is_a_solution(self):
        draw = Draw(30)
        for _ in range(60):
            rules = draw.rule_set(3, 3, -2, 1, 3)
            found = list(solutions_between(rules, -2, 1))
            for one in found[::5]:
                for other in found[::3]:
                    self.assertTrue(is_solution(rules, greatest_of(one, other)))
            if found:
                self.assertTrue(is_solution(rules, greatest_of_all(tuple(found))))

    def test_wrong_times(self):
        for wrong in NO_TIMES:
            with self.subTest(repr(wrong)[:60]):
                self.assertRaises(InvalidTimes, greatest_of, wrong)
                self.assertRaises(InvalidTimes, greatest_of, (0, 0), wrong)
                self.assertRaises(InvalidTimes, greatest_of, wrong, (0, 0))
                self.assertRaises(InvalidTimes, greatest_of_all, ((0, 0), (0, 0), wrong))

    def test_different_sizes(self):
        for one, other in (((0,), (0, 0)), ((0, 0), (0,)), ((0,) * 8, (0,) * 7)):
            self.assertRaises(InvalidTimes, greatest_of, one, other)
            self.assertRaises(InvalidTimes, greatest_of_all, (one, one, other))

    def test_greatest_of_all_takes_a_tuple_of_one_or_more(self):
        for wrong in NO_INTEGERS + (0, HUGE, [(0, 0)], {(0, 0): 1}, (0, 0), ([0, 0],)):
            with self.subTest(repr(wrong)[:60]):
                self.assertRaises(InvalidTimes, greatest_of_all, wrong)


class SolutionsBetween(unittest.TestCase):
    def test_by_the_words_of_the_document(self):
        draw = Draw(40)
        for size in range(1, 5):
            for _ in range(25):
                rules = draw.rule_set(size, draw.between(0, 4), -3, 2, 3)
                low = draw.between(-5, 2)
                high = low + draw.between(-1, 3)
                self.assertEqual(list(solutions_between(rules, low, high)), plainly_between(rules, low, high))

    def test_with_rules_that_hold_never_or_always(self):
        draw = Draw(42)
        found = 0
        for rules in drawn_with_additions():
            reach = (12, 6, 4, 2)[rules[0] - 1]
            low = draw.between(-4, 4)
            for low, high in ((low, low + reach), (low, low), (200 - reach, 200), (-200, reach - 200), (200, 200),
                              (-200, -200), (low, low - 1), (200, -200), (-199, -200)):
                values = list(solutions_between(rules, low, high))
                self.assertEqual(values, plainly_between(rules, low, high), (rules, low, high))
                found += len(values)
        self.assertGreater(found, 10000)

    def test_many_rules(self):
        draw = Draw(43)
        for size in range(1, 9):
            for low, high in ((-2, 2), (-60, 59), (0, 2), (-2, 0)):
                for many in (8, 24):
                    rules = draw.rule_set(size, many, low, high)
                    end = (9, 5, 3, 2, 1, 1, 1, 1)[size - 1]
                    self.assertEqual(list(solutions_between(rules, 0, end)), plainly_between(rules, 0, end))

    def test_a_solution_alone(self):
        # The ring leaves only equal times; with a chain only the greatest difference is left.
        for size in range(2, 9):
            width = min(dict(WIDTHS)[size], 61)
            equal = (size, tuple((k, (((k + 1) % size, 0),)) for k in range(size)))
            self.assertEqual(list(solutions_between(equal, 7, 6 + width)), [(k,) * size for k in range(7, 7 + width)])
            far = (size, tuple((k, ((k + 1, 0),)) for k in range(size - 1)) + ((0, ((size - 1, 1 - width),)),))
            self.assertEqual({(times[0], times[-1]) for times in solutions_between(far, 0, width - 1)}, {(0, width - 1)})
            early = (size, tuple((0, ((k, 1 - width),)) for k in range(1, size)))
            self.assertEqual(list(solutions_between(early, 0, width - 1)), [(0,) + (width - 1,) * (size - 1)])
            late = (size, tuple((k, ((0, 1 - width),)) for k in range(1, size)))
            self.assertEqual(list(solutions_between(late, 0, width - 1)), [(width - 1,) + (0,) * (size - 1)])

    def test_ascending(self):
        found = list(solutions_between((3, ()), -2, 1))
        self.assertEqual(found, sorted(found))
        self.assertEqual(len(found), 64)
        self.assertEqual((found[0], found[1], found[-1]), ((-2, -2, -2), (-2, -2, -1), (1, 1, 1)))

    def test_values_come_one_by_one(self):
        found = solutions_between((1, ()), -200, 200)
        self.assertEqual(next(found), (-200,))
        self.assertEqual(next(found), (-199,))
        self.assertEqual(len(list(found)), 399)

    def test_bounds(self):
        self.assertEqual(list(solutions_between((2, ()), 200, 200)), [(200, 200)])
        self.assertEqual(list(solutions_between((2, ()), -200, -200)), [(-200, -200)])
        self.assertEqual(list(solutions_between((8, ()), 200, -200)), [])
        self.assertEqual(list(solutions_between((8, ()), 1, 0)), [])

    def test_never_more_than_20000(self):
        for size, width in WIDTHS[1:]:
            self.assertTrue(width ** size <= 20000 < (width + 1) ** size)
            ring = (size, tuple((k, (((k + 1) % size, -1),)) for k in range(size)))
            for rules in ((size, ((size - 1, ()),)), (size, ((0, ()),)), ring):
                for low in (-200, 0, 201 - width):
                    self.assertEqual(list(solutions_between(rules, low, low + width - 1)), [])
            for rules in ((size, ((size - 1, ()),)), (size, ()), ring):
                for low, high in ((0, width), (-200, width - 200), (200 - width, 200), (-200, 200)):
                    with self.assertRaises(TooLarge) as caught:
                        next(solutions_between(rules, low, high))
                    self.assertEqual(caught.exception.limit, 20000)
                self.assertEqual(list(solutions_between(rules, 200, -200)), [])
        self.assertEqual(list(solutions_between((1, ((0, ()),)), -200, 200)), [])

    def test_all_times_without_rules(self):
        for size, width in WIDTHS:
            found = list(solutions_between((size, ()), -200, width - 201))
            self.assertEqual(found, list(product(range(-200, width - 200), repeat=size)))
            always = (size, tuple((k, ((k, 0),)) for k in range(size)))
            self.assertEqual(list(solutions_between(always, -200, width - 201)), found)

    def test_rules_without_solutions_are_quick(self):
        start = time.process_time()
        for _ in range(300):
            for size, width in WIDTHS[1:]:
                self.assertEqual(list(solutions_between((size, ((0, ()),)), -200, width - 201)), [])
        self.assertLess(time.process_time() - start, 1)
        start = time.process_time()
        for rules in drawn_with_additions():
            for size, width in WIDTHS[1:]:
                for never in ((size - 1, ()), (0, ((0, -1),))):
                    some = tuple((left % size, ((left % size, 0),)) for left, _ in rules[1])
                    self.assertEqual(list(solutions_between((size, some + (never,)), 201 - width, 200)), [])
        self.assertLess(time.process_time() - start, 3)

    def test_first_value_comes_at_once(self):
        start = time.process_time()
        for _ in range(100):
            for size, width in WIDTHS:
                self.assertEqual(next(solutions_between((size, ()), -200, width - 201)), (-200,) * size)
        self.assertLess(time.process_time() - start, 1)

    def test_two_generators_do_not_disturb_each_other(self):
        rules = (2, ((0, ((1, -1),)),))
        one, other = solutions_between(rules, 0, 2), solutions_between(rules, 0, 2)
        self.assertEqual([next(one), next(one), next(other), next(one), next(other)],
                         [(0, 1), (0, 2), (0, 1), (1, 2), (0, 2)])

    def test_wrong_bounds(self):
        for bound in BAD_BOUNDS:
            for low, high in ((bound, None), (0, bound), (-200, bound)):
                with self.subTest(repr(bound)[:60]), self.assertRaises(InvalidNumber) as caught:
                    list(solutions_between((8, ()), low, high))
                self.assertIs(caught.exception.value, bound)

    def test_wrong_rules_come_first(self):
        for wrong in BAD_RULE_SETS:
            with self.subTest(repr(wrong)[:60]), self.assertRaises(InvalidRules):
                next(solutions_between(wrong, None, 999))


class SmallerOfBoth(unittest.TestCase):
    def test_it_need_not_be_a_solution(self):
        one, other = (0, 0, -9), (0, -9, 0)
        rules = (3, ((0, ((1, 0), (2, 0))),))
        self.assertEqual([is_solution(rules, times) for times in (one, other, (0, -9, -9))], [True, True, False])


class Unchanged(unittest.TestCase):
    def test_arguments_stay_and_results_repeat(self):
        calls = (
            (is_times, 2, [0, 0]), (is_solution, T, [[0], {1: [2]}]), (right_side, R, 0, (1, 2, 3)),
            (right_side, R, [0], (1, 2, 3)), (broken_rules, R, [0, 0, 0]), (shifted, (1, 2), [3]),
            (greatest_of, (1, 2), [3, 4]), (greatest_of_all, [(1, 2)]), (greatest_of_all, ((1, 2), (2, 1))),
            (is_times, 1, nested(40)), (broken_rules, T, nested(40)), (shifted, (0,), nested(40)),
        )
        for function, *given in calls:
            before = copy.deepcopy(given)
            outcomes = []
            for _ in range(2):
                try:
                    outcomes.append(function(*given))
                except (InvalidTimes, InvalidNumber) as error:
                    outcomes.append(error.__class__)
            self.assertEqual(given, before)
            self.assertEqual(outcomes[0], outcomes[1])


if __name__ == "__main__":
    unittest.main()
