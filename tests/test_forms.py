import copy
import time
import unittest
from itertools import product

from latestof.errors import InvalidExpression, InvalidNumber, TooLarge
from latestof.rules.rules import is_rule_set
from latestof.rules.times import is_solution
from latestof.terms import forms as module
from latestof.terms.expressions import value_of
from latestof.terms.forms import exceeding_times, form_of, is_at_most, rules_of
from tests.sayings import (
    Many, draw_expression, draw_maximum, form_value, plain_below, plain_form, plain_is_expression, plain_value,
)
from tests.support import BAD_SIZES, HUGE, JUNK, Draw, nested, shown

E = ("max", ("min", 0, ("plus", 1, 3)), 2)
WRONG = (None, True, "A", -1, 8, HUGE, (), ("max",), ("plus", 0), ("plus", 0, 60), ["max", 0], ("max", [0]), b"", {},
         ("max", 0, "A"), ("sum", 0, 0), (0,), ("max",) + (0,) * 7)


# The form has just 60 maxima, and fewer before the last part.
SIXTY = ("max", ("min", 2, 4, ("plus", 6, 9), 1, ("plus", 5, -9)),
         ("min", ("plus", 1, 9), ("plus", 3, 12), 0, ("plus", 4, -11), ("plus", 7, 6)),
         ("min", ("plus", 3, -4), ("plus", 4, -12), 6, ("plus", 2, 9)), ("min", ("plus", 6, -2), 7, ("plus", 0, 5)))
# One more than 60, and not before the last part.
MORE = ("max", ("min", ("plus", 6, 12), ("plus", 2, -3), 3, ("plus", 5, 8), ("plus", 7, 10)),
        ("min", ("plus", 0, -1), ("plus", 7, 7), ("plus", 5, 11), ("plus", 6, -4), 4),
        ("min", ("plus", 0, 9), ("plus", 1, -11), ("plus", 7, -4), ("plus", 4, -12)),
        ("min", ("plus", 0, -3), ("plus", 2, -9), 1))
# Below all maxima of these, and above all of them.
LOW = ("plus", ("min", ("min", 0, 1, 2, 3, 4, 5), 6, 7), -60)
HIGH = ("plus", ("max", ("max", 0, 1, 2, 3, 4, 5), 6, 7), 59)
# Forms of 24 and of 25 maxima.
TWENTY_FOUR = ("max", ("min", 4, 3, 7, 1), ("min", 2, ("plus", 5, 3), 6, 0), ("min", ("plus", 0, -2), ("plus", 5, 2)))
TWENTY_FIVE = ("max", ("min", 6, 7, ("plus", 5, -3), 4), ("min", 3, 1, ("plus", 2, 1), 0),
               ("min", ("plus", 4, -3), 2))


def expressions(seed, many, budget=25, low=-9, high=9):
    draw = Draw(seed)
    found = []
    for _ in range(many):
        size = draw.between(1, 8)
        found.append((size, draw_expression(draw, tuple(range(size)), budget, 6, low, high)))
    return found


def is_form(value):
    if type(value) is not tuple or not value or list(value) != sorted(set(value)):
        return False
    for maximum in value:
        if type(maximum) is not tuple or not maximum or [j for j, _ in maximum] != sorted({j for j, _ in maximum}):
            return False
        if any(other != maximum and plain_below(other, maximum) for other in value):
            return False
    return True


class Examples(unittest.TestCase):
    def test_form_of(self):
        self.assertEqual(
            [form_of(3, E), form_of(2, ("min", 0, ("plus", 0, 1), ("max", 0, 1)))],
            [(((0, 0), (2, 0)), ((1, 3), (2, 0))), (((0, 0),),)])

    def test_at_most(self):
        self.assertEqual(
            [is_at_most(2, ("min", 0, 1), ("max", 0, 1)), is_at_most(2, ("max", 0, 1), 0),
             exceeding_times(2, 0, ("plus", 0, 2))], [True, False, None])

    def test_rules_of(self):
        self.assertEqual(
            rules_of(3, ("max", 0, ("plus", 1, 2)), ("min", 2, ("max", 0, ("plus", 2, -5)))),
            (3, ((0, ((0, 0), (2, -5))), (1, ((0, -2), (2, -7))), (0, ((2, 0),)), (1, ((2, -2),)))))

    def test_constant(self):
        self.assertEqual(module.MAX_MAXIMA, 60)


class Forms(unittest.TestCase):
    def test_have_the_value_of_the_expression(self):
        draw = Draw(91)
        greatest = 0
        for size, value in expressions(92, 300) + expressions(93, 60, 60, -60, 59):
            form = form_of(size, value)
            self.assertTrue(is_form(form), (value, form))
            self.assertEqual(form, plain_form(value), value)
            greatest = max(greatest, len(form))
            for _ in range(6):
                times = tuple(draw.between(-30, 30) for _ in range(size))
                self.assertEqual(form_value(times, form), value_of(times, value))
        self.assertGreater(greatest, 5)

    def test_words(self):
        self.assertEqual(form_of(3, 2), (((2, 0),),))
        self.assertEqual(form_of(1, ("plus", ("plus", 0, -60), -60)), (((0, -120),),))
        self.assertEqual(form_of(2, ("max", 0, ("plus", 0, 1), 1)), (((0, 1), (1, 0)),))
        self.assertEqual(form_of(2, ("min", 1, ("plus", 0, 1), 1)), (((0, 1),), ((1, 0),)))
        self.assertEqual(form_of(2, ("min", ("max", 0, 1), 0, ("max", 1, 0))), (((0, 0),),))
        self.assertEqual(form_of(2, ("max", ("min", 0, 1), ("min", 0, 1))), (((0, 0),), ((1, 0),)))
        self.assertEqual(form_of(1, ("min", ("plus", 0, 59), ("plus", 0, -60))), (((0, -60),),))
        self.assertEqual(form_of(2, ("max", ("min", ("max", 0, 1)))), (((0, 0), (1, 0)),))
        deep = 0
        for _ in range(5):
            deep = ("plus", deep, -60)
        self.assertEqual(form_of(8, deep), (((0, -300),),))

    def test_equal_values_have_equal_forms(self):
        rows = [(size, value, form_of(size, value)) for size, value in expressions(94, 120, 7, -1, 1) if size <= 2]
        equal = 0
        for size, one, form in rows:
            for other_size, other, other_form in rows:
                if size == other_size:
                    same = all(plain_value(times, one) == plain_value(times, other)
                               for times in product(range(-6, 7), repeat=size))
                    self.assertEqual(form == other_form, same, (one, other))
                    equal += same and one != other
        self.assertGreater(equal, 20)

    def test_order_of_the_parts_does_not_matter(self):
        draw = Draw(95)
        for size, value in expressions(96, 100):
            if type(value) is tuple and value[0] != "plus":
                parts = sorted(value[1:], key=lambda part: draw.below(1000))
                self.assertEqual(form_of(size, (value[0],) + tuple(parts)), form_of(size, value))


class SixtyMaxima(unittest.TestCase):
    def limit(self, value):
        self.assertTrue(plain_is_expression(8, value))
        with self.assertRaises(TooLarge) as caught:
            form_of(8, value)
        self.assertEqual(caught.exception.limit, 60)
        self.assertRaises(Many, plain_form, value)

    def fits(self, value, many):
        self.assertTrue(plain_is_expression(8, value))
        form = form_of(8, value)
        self.assertEqual(form, plain_form(value))
        self.assertEqual(len(form), many)

    def test_sixty_and_one_more(self):
        self.fits(SIXTY, 60)
        self.fits(("plus", SIXTY, 59), 60)
        self.fits(("max", SIXTY), 60)
        self.limit(MORE)
        # One more by "min": the number is so great that the maximum is below no other one.
        self.limit(("min", SIXTY, ("plus", 0, 59)))
        self.limit(("min", ("plus", 0, 59), SIXTY))
        # Here some other maximum has the variable with a greater number, and is dropped.
        self.assertLessEqual(len(form_of(8, ("min", SIXTY, ("plus", 0, -60)))), 60)

    def test_an_expression_within(self):
        self.fits(("min", LOW, SIXTY), 8)
        self.fits(("max", HIGH, SIXTY), 1)
        for value in (("min", LOW, MORE), ("min", MORE, LOW), ("max", HIGH, MORE), ("max", MORE, HIGH), ("plus", MORE, 0),
                      ("min", LOW, ("plus", MORE, 1)), ("max", ("min", MORE))):
            self.limit(value)

    def test_the_first_parts(self):
        parts = MORE[1:]
        self.limit(("max",) + parts + (HIGH,))
        self.fits(("max", HIGH) + parts, 1)
        self.fits(("max",) + parts[:3] + (HIGH,) + parts[3:], 1)
        # Under another word within, they are parts of their own.
        self.limit(("max", HIGH, ("max",) + parts))
        self.limit(("min", SIXTY, ("plus", 0, 59), LOW))
        self.fits(("min", SIXTY, LOW, ("plus", 0, 59)), 8)
        self.fits(("min", LOW, SIXTY, ("plus", 0, 59)), 8)
        self.limit(("min", LOW, ("min", SIXTY, ("plus", 0, 59))))

    def test_drawn_products(self):
        draw = Draw(97)
        found = {}
        for _ in range(250):
            value = ("max",) + tuple(("min",) + tuple(
                ("plus", draw.below(8), draw.between(-9, 9)) if draw.below(2) else draw.below(8) for _ in range(many))
                for many in ((4, 4, 3, 3), (5, 4, 3, 2), (5, 5, 5, 5, 5))[draw.below(3)])
            try:
                wanted = plain_form(value)
                self.assertEqual(form_of(8, value), wanted)
                found[len(wanted) > 20] = True
            except Many:
                self.limit(value)
                found[None] = True
        self.assertEqual(set(found), {True, False, None})


class AtMost(unittest.TestCase):
    def test_agrees_with_trying_all_times(self):
        kinds = set()
        rows = [(size, value) for size, value in expressions(98, 200, 9, -2, 2) if size <= 3][:60]
        for size, one in rows:
            for other_size, other in rows:
                if size != other_size:
                    continue
                reach = range(-5, 6) if size < 3 else range(-3, 4)
                exceeds = any(plain_value(times, one) > plain_value(times, other) for times in product(reach, repeat=size))
                found = exceeding_times(size, one, other)
                self.assertIs(is_at_most(size, one, other), found is None)
                if exceeds:
                    self.assertIsNotNone(found, (one, other))
                if found is not None:
                    self.assertTrue(type(found) is tuple and len(found) == size and all(type(t) is int for t in found))
                    self.assertGreater(plain_value(found, one), plain_value(found, other))
                else:
                    self.assertFalse(exceeds)
                kinds.add((found is None, one == other))
        self.assertEqual(kinds, {(True, True), (True, False), (False, False)})

    def test_agrees_with_values_at_drawn_times(self):
        draw = Draw(99)
        rows = expressions(100, 150, 30, -60, 59)
        ordered = 0
        for (size, one), (_, two) in zip(rows, rows[1:]):
            other = two if plain_is_expression(size, two) else size - 1
            for first, second in ((one, other), (other, one), (one, ("max", one, other)), (("min", other, one), one)):
                if not plain_is_expression(size, second) or not plain_is_expression(size, first):
                    continue
                found = exceeding_times(size, first, second)
                if found is None:
                    ordered += 1
                    for _ in range(20):
                        times = tuple(draw.between(-100, 100) for _ in range(size))
                        self.assertLessEqual(plain_value(times, first), plain_value(times, second))
                else:
                    self.assertGreater(plain_value(found, first), plain_value(found, second))
        self.assertGreater(ordered, 150)

    def test_by_forms(self):
        # Each maximum of the greater form needs one that is equal to it or below it in the other form.
        rows = [(size, value, form_of(size, value)) for size, value in expressions(101, 150, 15, -3, 3)]
        for size, one, form in rows:
            for other_size, other, other_form in rows[:60]:
                if size == other_size:
                    wanted = all(any(plain_below(low, high) for low in form) for high in other_form)
                    self.assertIs(is_at_most(size, one, other), wanted)

    def test_edges(self):
        for size in (1, 2, 8):
            last = size - 1
            self.assertIs(is_at_most(size, last, last), True)
            self.assertIs(is_at_most(size, ("plus", last, 1), last), False)
            self.assertIs(is_at_most(size, ("plus", last, -1), last), True)
            if size > 1:
                self.assertIs(is_at_most(size, 0, last), False)
                found = exceeding_times(size, 0, last)
                self.assertGreater(found[0], found[last])

    def test_is_symmetric_only_for_equal_forms(self):
        rows = [(size, value) for size, value in expressions(102, 120, 6, -1, 1) if size == 2]
        for size, one in rows:
            for _, other in rows:
                both = is_at_most(size, one, other) and is_at_most(size, other, one)
                self.assertEqual(both, form_of(size, one) == form_of(size, other))


class RulesOf(unittest.TestCase):
    def test_agree_with_values(self):
        draw = Draw(103)
        holding = 0
        for _ in range(150):
            size = draw.between(1, 8)
            first = draw_maximum(draw, tuple(range(size)), -9, 9)
            second = draw_expression(draw, tuple(range(size)), 12, 4, -9, 9)
            rules = rules_of(size, first, second)
            self.assertTrue(is_rule_set(rules))
            self.assertEqual(rules, self.plain_rules(size, first, second))
            for _ in range(20):
                times = tuple(draw.between(-12, 12) for _ in range(size))
                wanted = plain_value(times, first) <= plain_value(times, second)
                self.assertIs(is_solution(rules, times), wanted, (first, second, times))
                holding += wanted
        self.assertTrue(500 < holding < 2500)

    def plain_rules(self, size, first, second):
        (only,) = plain_form(first)
        return size, tuple((j, tuple((k, d - c) for k, d in maximum)) for maximum in plain_form(second) for j, c in only)

    def test_first_expression_with_a_single_maximum(self):
        # It may be written with "min".
        for first, wanted in ((("min", 0, ("plus", 0, 3)), ((0, ((1, 0),)),)),
                              (("min", ("max", 0, 1), 0), ((0, ((1, 0),)),)),
                              (("min", 1), ((1, ((1, 0),)),))):
            self.assertEqual(rules_of(2, first, 1), (2, wanted))
        for first in (("min", 0, 1), ("max", ("min", 0, 1), ("min", 0, ("plus", 1, 1))), ("plus", ("min", 1, 0), 3)):
            self.assertRaises(InvalidExpression, rules_of, 2, first, 0)

    def test_twenty_four_rules(self):
        wide = ("max", 0, 1, 2, 3, 4, 5)
        for parts, fits in ((1, True), (3, True), (4, True), (5, False), (6, False)):
            second = ("min",) + tuple(range(2, 2 + parts))
            if fits:
                self.assertEqual(rules_of(8, wide, second), self.plain_rules(8, wide, second))
                self.assertEqual(len(rules_of(8, wide, second)[1]), 6 * parts)
            else:
                self.limit(24, 8, wide, second)
        self.limit(24, 8, ("max", 0, 1, 2, 3, 4), ("min", 0, 1, 2, 3, 4))
        self.assertEqual(rules_of(8, 0, TWENTY_FOUR), self.plain_rules(8, 0, TWENTY_FOUR))
        self.assertEqual(len(rules_of(8, 0, TWENTY_FOUR)[1]), 24)
        self.limit(24, 8, 0, TWENTY_FIVE)
        self.limit(24, 8, 0, SIXTY)

    def limit(self, wanted, *arguments):
        with self.assertRaises(TooLarge) as caught:
            rules_of(*arguments)
        self.assertEqual(caught.exception.limit, wanted)

    def test_delays(self):
        for c in (-60, -30, -1, 0, 1, 29, 59):
            for d in (-60, -31, -1, 0, 1, 30, 59):
                first, second = ("plus", 0, c), ("max", 0, ("plus", 1, d))
                if -60 <= d - c <= 59 and -60 <= -c <= 59:
                    self.assertEqual(rules_of(2, first, second), (2, ((0, ((0, -c), (1, d - c))),)))
                else:
                    self.limit(60, 2, first, second)
        for total, fits in ((-60, True), (-61, False), (59, True), (60, False)):
            second = ("plus", ("plus", 1, total // 2), total - total // 2)
            if fits:
                self.assertEqual(rules_of(2, 0, second), (2, ((0, ((1, total),)),)))
            else:
                self.limit(60, 2, 0, second)
            # A delay counts also in the last rule alone, and where the rule always holds.
            for second in (("min", ("max", 1, 0), second), ("max", 0, second)):
                if fits:
                    self.assertTrue(is_rule_set(rules_of(2, 0, second)))
                elif len(plain_form(second)) > 1 or second[0] == "max":
                    self.limit(60, 2, 0, second)

    def test_errors_in_order(self):
        big, many = MORE, TWENTY_FIVE
        far = ("plus", ("plus", 0, 59), 59)
        more = ("min",) + tuple(("plus", part, 59) for part in (far, 1, 2, 3, 4))
        functions = (is_at_most, exceeding_times, rules_of)
        for function in functions:
            for size in BAD_SIZES:
                with self.assertRaises(InvalidNumber) as caught:
                    function(size, None, None)
                self.assertIs(caught.exception.value, size)
            for wrong in WRONG:
                for other in (0, big, None):
                    self.assertRaises(InvalidExpression, function, 8, wrong, other)
                    self.assertRaises(InvalidExpression, function, 8, other, wrong)
            for pair in ((big, 0), (0, big), (big, big), (many, big)):
                with self.assertRaises(TooLarge) as caught:
                    function(8, *pair)
                self.assertEqual(caught.exception.limit, 60)
        # Then more than one maximum of the first form, then the number of rules, then the delays.
        self.assertRaises(InvalidExpression, rules_of, 8, many, many)
        self.assertRaises(InvalidExpression, rules_of, 8, ("min", 0, 1), far)
        self.limit(24, 8, ("max", 0, 1, 2, 3, 4, far), more)
        self.limit(60, 8, 0, far)
        for size in BAD_SIZES:
            with self.subTest(shown(size)):
                with self.assertRaises(InvalidNumber) as caught:
                    form_of(size, None)
                self.assertIs(caught.exception.value, size)
        for wrong in WRONG + JUNK:
            if not plain_is_expression(8, wrong):
                self.assertRaises(InvalidExpression, form_of, 8, wrong)
        self.assertRaises(InvalidExpression, form_of, 2, E)
        self.limit_of_form(big)

    def limit_of_form(self, value):
        with self.assertRaises(TooLarge) as caught:
            form_of(8, value)
        self.assertEqual(caught.exception.limit, 60)

    def test_arguments_stay(self):
        for value in (["max", 0], ("max", [0]), {"max": [0]}, nested(40)):
            before = copy.deepcopy(value)
            self.assertRaises(InvalidExpression, form_of, 8, value)
            self.assertRaises(InvalidExpression, rules_of, 8, value, 0)
            self.assertRaises(InvalidExpression, is_at_most, 8, 0, value)
            self.assertEqual(value, before)


class Quick(unittest.TestCase):
    def test_great_forms(self):
        draw = Draw(105)
        start = time.process_time()
        many = 0
        for _ in range(200):
            value = ("max",) + tuple(("min",) + tuple(("plus", draw.below(8), draw.between(-9, 9)) for _ in range(number))
                                     for number in (5, 5, 5, 5, 5))
            self.assertTrue(plain_is_expression(8, value))
            try:
                form_of(8, value)
            except TooLarge:
                many += 1
        self.assertGreater(many, 20)
        self.assertLess(time.process_time() - start, 0.02 * 200)


if __name__ == "__main__":
    unittest.main()
