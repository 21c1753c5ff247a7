import copy
import time
import unittest

from latestof.errors import InvalidExpression, InvalidNumber, InvalidTimes, ParseError, UnknownEvent
from latestof.terms import expressions as module
from latestof.terms.expressions import (
    format_expression, is_expression, numbered, parse_expression, value_of,
)
from tests.sayings import (
    BAD_EVENTS, BAD_NAMES, EVENTS, GOOD_EVENTS, draw_expression, plain_is_expression, plain_is_named, plain_leaves,
    plain_parsed, plain_text, plain_value, text_variants, with_leaves,
)
from tests.support import BAD_SIZES, HUGE, JUNK, NO_INTEGERS, Draw, nested, shown, variants

E = ("max", ("min", 0, ("plus", 1, 3)), 2)
N = ("max", ("min", "A", ("plus", ("plus", "B", 1), -3)), "C")


def chain(depth, leaf=0):
    """Return an expression that is so deep."""
    for level in range(depth - 1):
        leaf = (("max", leaf), ("plus", leaf, 1), ("min", leaf))[level % 3]
    return leaf


def wide(nodes, leaf=0):
    """Return an expression with so many nodes, from 8 to 60 or a few more."""
    parts, left = [], nodes - 1
    for k in range(6):
        inner = left // (6 - k)
        left -= inner
        if inner == 1:
            parts.append(leaf)
            continue
        leaves = []
        inner -= 1
        while inner:
            leaves.append(("plus", leaf, 0) if inner > 6 - len(leaves) else leaf)
            inner -= 2 if type(leaves[-1]) is tuple else 1
        parts.append(("max",) + tuple(leaves))
    return ("min",) + tuple(parts)


def count(value):
    return 1 if type(value) is not tuple else 1 + sum(
        count(part) for part in (value[1:2] if value[0] == "plus" else value[1:]))


def edges(leaf):
    """Return pairs of a value and whether it is an expression, at the limits and one beyond."""
    found = [(chain(depth, leaf), depth <= 6) for depth in range(1, 9)]
    found += [(wide(nodes, leaf), nodes <= 60) for nodes in range(8, 64)]
    for word in ("max", "min"):
        found += [((word,) + (leaf,) * many, 1 <= many <= 6) for many in range(0, 9)]
    found += [(("plus", leaf, delay), -60 <= delay <= 59) for delay in (-61, -60, -59, 0, 58, 59, 60, HUGE, -HUGE)]
    return found


def wrong_forms(leaf):
    """Return values of which none is an expression, if just the leaf is one."""
    found = [("plus",), ("plus", leaf), ("plus", leaf, 0, 0), ("plus", leaf, leaf, 0), ("plus", 0), ("Max", leaf),
             ("maximum", leaf), ("", leaf), (b"max", leaf), (None, leaf), (("max",), leaf), ["max", leaf],
             ("max", [leaf]), ("max", (leaf,)), ("max", ()), ("max", leaf, ("min",)), ("plus", (leaf,), 0),
             ("plus", ("plus", leaf, 60), 0), ("plus", leaf, None), ("sum", leaf, leaf), ("max", leaf, ["plus", leaf, 1]),
             ("max", {0: leaf}), {0: "max", 1: leaf}, ("plus", 0, leaf) if type(leaf) is str else ("plus", 0, "0")]
    return found + [("plus", leaf, wrong) for wrong in NO_INTEGERS]


class Examples(unittest.TestCase):
    def test_values(self):
        self.assertEqual(
            [is_expression(3, E), is_expression(2, E), value_of((5, 1, 0), E), value_of((5, 1, 9), E)],
            [True, False, 4, 9])

    def test_texts(self):
        self.assertEqual(
            [numbered(("B", "A", "C"), N), format_expression(N)],
            [("max", ("min", 1, ("plus", ("plus", 0, 1), -3)), 2), "max(min(A, B + 1 - 3), C)"])
        self.assertRaises(ParseError, parse_expression, "A - 0")

    def test_constants(self):
        self.assertEqual((module.MAX_PARTS, module.MAX_DEPTH, module.MAX_NODES), (6, 6, 60))


class IsExpression(unittest.TestCase):
    def test_edges(self):
        for size in (1, 2, 8):
            for value, wanted in edges(size - 1):
                self.assertIs(plain_is_expression(size, value), wanted)
                self.assertIs(is_expression(size, value), wanted, (size, value))
        self.assertEqual([count(wide(nodes)) for nodes in range(8, 64)], list(range(8, 64)))

    def test_depth_counts_on_every_way(self):
        for place in range(6):
            for depth in (5, 6):
                value = ("max",) + (0,) * place + (chain(depth),) + (0,) * (5 - place)
                self.assertIs(is_expression(1, value), depth == 5)

    def test_variables(self):
        for size in range(1, 9):
            for leaf in (-1, 0, size - 1, size, 8, HUGE, -HUGE) + NO_INTEGERS + GOOD_EVENTS:
                wanted = type(leaf) is int and 0 <= leaf < size
                for value in (leaf, ("plus", leaf, 1), ("max", 0, leaf), ("min", ("max", 0), ("plus", leaf, 0))):
                    self.assertIs(is_expression(size, value), wanted, (size, shown(value)))

    def test_values_with_one_part_changed(self):
        accepted = 0
        draw = Draw(81)
        for value in [0, E] + [draw_expression(draw, (0, 1, 2), 12) for _ in range(12)]:
            for other in variants(value):
                wanted = plain_is_expression(3, other)
                self.assertIs(is_expression(3, other), wanted, other)
                accepted += wanted
        self.assertGreater(accepted, 300)

    def test_wrong_values(self):
        for value in wrong_forms(0):
            with self.subTest(shown(value)):
                self.assertIs(is_expression(3, value), False)
                self.assertIs(is_expression(3, ("max", 0, value)), False)
        for value in JUNK:
            with self.subTest(shown(value)):
                self.assertIs(is_expression(3, value), plain_is_expression(3, value))

    def test_great_and_deep_values_are_quick(self):
        shared = 0
        for _ in range(39):
            shared = ("max",) + (shared,) * 6
        start = time.process_time()
        for value in (shared, ("max", shared), ("max",) + (0,) * 10 ** 6, nested(39)):
            self.assertIs(is_expression(3, value), False)
        self.assertLess(time.process_time() - start, 0.2)

    def test_wrong_sizes(self):
        for size in BAD_SIZES:
            with self.subTest(shown(size)):
                with self.assertRaises(InvalidNumber) as caught:
                    is_expression(size, None)
                self.assertIs(caught.exception.value, size)


class ValueOf(unittest.TestCase):
    def test_agrees_with_the_words(self):
        draw = Draw(82)
        for _ in range(300):
            size = draw.between(1, 8)
            value = draw_expression(draw, tuple(range(size)), 60)
            times = tuple(draw.between(-200, 200) for _ in range(size))
            self.assertEqual(value_of(times, value), plain_value(times, value))
            later = tuple(entry + HUGE for entry in times)
            self.assertEqual(value_of(later, value), plain_value(times, value) + HUGE)

    def test_edges(self):
        for value, wanted in edges(1):
            if wanted:
                self.assertEqual(value_of((5, -HUGE), value), plain_value((5, -HUGE), value))
            else:
                self.assertRaises(InvalidExpression, value_of, (5, 7), value)

    def test_errors_in_order(self):
        for times in NO_INTEGERS[:-5] + ((), (0,) * 9, [0, 0, 0], (0, True, 0), (0, None, 0), (0, "0", 0), {0: 0}, 3):
            for value in (0, None, E):
                with self.subTest(shown(times)):
                    self.assertRaises(InvalidTimes, value_of, times, value)
        self.assertRaises(InvalidExpression, value_of, (0, 0), E)
        for value in wrong_forms(0) + list(JUNK):
            if not plain_is_expression(3, value):
                with self.subTest(shown(value)):
                    self.assertRaises(InvalidExpression, value_of, (0, 0, 0), value)


class Numbered(unittest.TestCase):
    def test_agrees_with_the_words(self):
        draw = Draw(83)
        for _ in range(200):
            events = EVENTS[:draw.between(1, 8)]
            value = draw_expression(draw, events, 60)
            names = tuple(sorted(events, key=lambda event: draw.below(1000)))
            self.assertEqual(numbered(names, value), with_leaves({name: k for k, name in enumerate(names)}, value))

    def test_names_of_the_words(self):
        value = ("max", "MAX", ("min", "MIN", ("plus", "PLUS", 1)))
        self.assertEqual(numbered(("PLUS", "MIN", "MAX"), value), ("max", 2, ("min", 1, ("plus", 0, 1))))

    def test_edges(self):
        for value, wanted in edges("ABCDEFGH"):
            if wanted:
                self.assertEqual(numbered(("ABCDEFGH",), value), with_leaves({"ABCDEFGH": 0}, value))
            else:
                self.assertRaises(InvalidExpression, numbered, ("ABCDEFGH",), value)

    def test_wrong_events_come_first(self):
        for events in BAD_NAMES:
            for value in ("A", "X", None):
                with self.subTest(shown(events)):
                    self.assertRaises(InvalidExpression, numbered, events, value)
        for events in (("A",), EVENTS, GOOD_EVENTS):
            self.assertEqual(numbered(events, "A"), 0)

    def test_unknown_events_from_the_left(self):
        for value, name in (("X", "X"), (("max", "Z", "X"), "Z"), (("max", "A", ("min", "Y", "X"), "W"), "Y"),
                            (("plus", ("max", ("plus", "B", 1), "Q"), 2), "Q"), (("max", ("min", "A", "B"), "AA"), "AA")):
            with self.assertRaises(UnknownEvent) as caught:
                numbered(("A", "B"), value)
            self.assertEqual(caught.exception.name, name)
        for value in wrong_forms("X"):
            self.assertRaises(InvalidExpression, numbered, ("A", "B"), ("max", "X", value))


class Texts(unittest.TestCase):
    def test_agree_with_the_words(self):
        draw = Draw(84)
        for _ in range(400):
            value = draw_expression(draw, EVENTS[:3] + GOOD_EVENTS, draw.between(1, 60))
            text = format_expression(value)
            self.assertEqual(text, plain_text(value))
            self.assertEqual(parse_expression(text), value)

    def test_delays(self):
        for delay in range(-60, 60):
            text = format_expression(("plus", "A", delay))
            self.assertEqual(text, "A - %d" % -delay if delay < 0 else "A + %d" % delay)
            self.assertEqual(parse_expression(text), ("plus", "A", delay))
        for text in ("A + 60", "A - 61", "A + 100", "A + 1000", "A + 00", "A + 01", "A - 0", "A - 00", "A + -1", "A - -1",
                     "A + " + "9" * 1900, "A + ", "A +", "A + 1 ", "A+1", "A  + 1", "A +1", "A+ 1", "A + +1", "A + 1.0",
                     "A + 1_0", "A + B", "1 + A", "A + 1 + ", "A\n+ 1", "A + \t1"):
            with self.subTest(shown(text)):
                self.assertRaises(ParseError, parse_expression, text)

    def test_edges(self):
        for leaf in ("A", "ABCDEFGH"):
            for value, wanted in edges(leaf):
                if wanted:
                    self.assertEqual(parse_expression(format_expression(value)), value)
                else:
                    self.assertRaises(InvalidExpression, format_expression, value)
                    # A text cannot show everything: its delays of more than two digits are seen by themselves.
                    self.assertRaises(ParseError, parse_expression, plain_text(value))

    def test_format_takes_named_expressions_only(self):
        for value in wrong_forms("A") + [wrong for wrong in BAD_EVENTS] + [E, ("max", "A", 0), ("max", "A", "b")]:
            with self.subTest(shown(value)):
                self.assertRaises(InvalidExpression, format_expression, value)
        for value in JUNK:
            with self.subTest(shown(value)):
                self.assertRaises(InvalidExpression, format_expression, value)
        for event in GOOD_EVENTS:
            self.assertEqual(format_expression(event), event)

    def test_values_with_one_part_changed(self):
        for value in ("A", N):
            for other in variants(value):
                if plain_is_named(other):
                    self.assertEqual(format_expression(other), plain_text(other))
                else:
                    self.assertRaises(InvalidExpression, format_expression, other)

    def test_parse_accepts_exactly_the_texts(self):
        draw = Draw(85)
        accepted = 0
        values = [N, "A", "ABCDEFGH", ("plus", "A", 0), ("plus", "A", -60), ("max", "A"), ("plus", ("min", "A", "B"), 10)]
        for value in values + [draw_expression(draw, EVENTS, 9, 4) for _ in range(25)]:
            for text in text_variants(plain_text(value)):
                wanted = plain_parsed(text)
                if wanted is None:
                    self.assertRaises(ParseError, parse_expression, text)
                else:
                    self.assertEqual(parse_expression(text), wanted, text)
                    self.assertEqual(plain_text(wanted), text)
                    accepted += 1
        self.assertGreater(accepted, 500)

    def test_other_texts(self):
        for text in ("", " ", "a", "max", "max(", "max()", "max)", "max(A", "max(A,B)", "max(A , B)", "max( A)", "max(A )",
                     "max(A, )", "max(, A)", "max (A)", "(A)", "A, B", "A)", "A B", "Max(A)", "MAX(A)", "sum(A)",
                     "plus(A, 1)", "min(A)B", "min(A) ", "min(A))", "min((A))", "max(A;B)", "ABCDEFGHI", "A1", "0",
                     "max(0, 1)", "max(A, B]", "nothing", "A\x00", "\x00"):
            with self.subTest(text):
                self.assertRaises(ParseError, parse_expression, text)
        self.assertEqual(parse_expression("MAX"), "MAX")
        self.assertEqual(parse_expression("max(MAX)"), ("max", "MAX"))

    def test_long_texts(self):
        start = time.process_time()
        for text in ("max(" * 500, "A + 1" * 400, "A" + " + 1" * 499, "max(" + "A, " * 600 + "A)", "max(min(" * 200 + "A",
                     "(" * 2000, ")" * 2000, " " * 2000, "A" * 2000, "9" * 2000, "max(A)" * 300, "+ 1" * 600,
                     "max(" * 400 + "A" + ")" * 400):
            self.assertRaises(ParseError, parse_expression, text)
        self.assertLess(time.process_time() - start, 0.5)
        longest = ("max",) + (("max",) + (("plus", "ABCDEFGH", -60),) * 4 + ("ABCDEFGH",) * 2,) * 5
        self.assertEqual(parse_expression(format_expression(longest)), longest)

    def test_other_values(self):
        for value in JUNK + NO_INTEGERS + (b"A", "A".encode(), ("A",), ["A"], {"A": "A"}, N, 0, None, True):
            with self.subTest(shown(value)):
                self.assertRaises(ParseError, parse_expression, value)


class Arguments(unittest.TestCase):
    def test_they_stay(self):
        for value in (["max", "A"], ("max", ["A"]), {"max": ["A"]}, nested(40)):
            before = copy.deepcopy(value)
            self.assertIs(is_expression(3, value), False)
            self.assertRaises(InvalidExpression, value_of, (0,), value)
            self.assertRaises(InvalidExpression, numbered, ("A",), value)
            self.assertRaises(InvalidExpression, numbered, value, "A")
            self.assertRaises(InvalidExpression, format_expression, value)
            self.assertRaises(ParseError, parse_expression, value)
            self.assertEqual(value, before)

    def test_leaves_of_the_plain_answers(self):
        self.assertEqual(plain_leaves(N), ["A", "B", "C"])


if __name__ == "__main__":
    unittest.main()
