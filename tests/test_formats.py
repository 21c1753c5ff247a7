import copy
import re
import time
import unittest

from latestof.errors import InvalidRules, ParseError
from latestof.rules.rules import is_rule_set
from latestof.text.formats import format_rules, parse_rules
from tests.sayings import text_variants
from tests.support import BAD_RULE_SETS, JUNK, NO_INTEGERS, R, T, Draw, nested, shown, variants

S = (3, ((0, ((1, 2), (2, -1))), (1, ())))
TERM = "[0-7](?:[+](?:0|[1-9]|[1-5][0-9])|-(?:[1-9]|[1-5][0-9]|60))"
RULE = "[0-7] <= (?:never|" + TERM + "(?: [|] " + TERM + ")*)"
TEXT = re.compile("[1-8](?:; " + RULE + "){0,24}")


def is_text(text):
    """Return whether the text is that of a rule set, by a pattern."""
    if TEXT.fullmatch(text) is None:
        return False
    size, *listed = text.split("; ")
    for rule in listed:
        left, right = rule.split(" <= ")
        variables = [int(term[0]) for term in right.split(" | ")] if right != "never" else []
        if variables != sorted(set(variables)) or max(variables + [int(left)]) >= int(size):
            return False
    return True


def plain_text(rules):
    size, listed = rules
    texts = []
    for left, terms in listed:
        right = " | ".join("%d%s%d" % (j, "+" if c >= 0 else "-", abs(c)) for j, c in terms)
        texts.append("; %d <= %s" % (left, right or "never"))
    return str(size) + "".join(texts)


def samples():
    """Return rule sets, also without rules, with a rule without terms, with 24 rules, with the greatest delays and 0."""
    draw = Draw(171)
    found = [(size, ()) for size in range(1, 9)] + [R, T, S, (1, ((0, ()),)), (1, ((0, ()),) * 24)]
    found += [(8, ((7, tuple((k, delay) for k in range(8))),) * 24) for delay in (-60, -1, 0, 9, 10, 59)]
    for _ in range(60):
        size = draw.between(1, 8)
        found.append(draw.rule_set(size, draw.between(0, 24), -60, 59, draw.between(1, size)))
    return found


class Examples(unittest.TestCase):
    def test_texts(self):
        self.assertEqual(
            [format_rules(S), parse_rules("3; 0 <= 1+2 | 2-1; 1 <= never") == S, parse_rules("2")],
            ["3; 0 <= 1+2 | 2-1; 1 <= never", True, (2, ())])
        self.assertRaises(ParseError, parse_rules, "2; 0 <= 1-0")


class FormatRules(unittest.TestCase):
    def test_by_the_words(self):
        for rules in samples():
            text = format_rules(rules)
            self.assertEqual(text, plain_text(rules))
            self.assertTrue(is_text(text))
            self.assertEqual(parse_rules(text), rules)

    def test_delays(self):
        for delay in range(-60, 60):
            rules = (2, ((0, ((1, delay),)),))
            text = format_rules(rules)
            self.assertEqual(text, "2; 0 <= 1%+d" % delay)
            self.assertEqual(parse_rules(text), rules)

    def test_wrong_rules(self):
        for wrong in BAD_RULE_SETS:
            with self.subTest(shown(wrong)):
                self.assertRaises(InvalidRules, format_rules, wrong)
        for value in variants(S):
            if is_rule_set(value):
                self.assertEqual(format_rules(value), plain_text(value))
            else:
                self.assertRaises(InvalidRules, format_rules, value)


class ParseRules(unittest.TestCase):
    def test_accepts_exactly_the_texts(self):
        accepted = 0
        for rules in [S, (1, ()), (8, ((7, ((0, -60), (7, 59))),)), (2, ((0, ()), (1, ((0, 10),)))), R, T]:
            text = plain_text(rules)
            others = text_variants(text) + [text + "; 0 <= never", "0" + text, text.replace("; ", ";"), text.replace(" ", "")]
            others += [text.replace("|", other) for other in ("||", "| |", ",", "")]
            for other in others:
                if is_text(other):
                    self.assertEqual(plain_text(parse_rules(other)), other)
                    accepted += other != text
                else:
                    with self.subTest(other):
                        self.assertRaises(ParseError, parse_rules, other)
        self.assertGreater(accepted, 60)

    def test_other_texts(self):
        for text in (
                "", " ", "0", "9", "10", "01", "-1", "+1", "1 ", " 1", "1;", "1; ", "1\n", "one", "3.0", "3; ", "3;0 <= never",
                "3; 0 <= ", "3; 0 <=", "3; 0", "3; 3 <= never", "3; -1 <= never", "3; 00 <= never", "3; 0 <= Never",
                "3; 0 < 1+2", "3; 0 >= 1+2", "3; 0 <= 1", "3; 0 <= 1+", "3; 0 <= +2", "3; 0 <= 1 + 2", "3; 0 <= 1+02",
                "3; 0 <= 1+-2", "3; 0 <= 1--2", "3; 0 <= 1++2", "3; 0 <= 1-0", "3; 0 <= 1+60", "3; 0 <= 1-61", "3; 0 <= 1-00",
                "3; 0 <= 01+2", "3; 0 <= 3+2", "3; 0 <= 1+2 | 1+3", "3; 0 <= 2+2 | 1+3", "3; 0 <= 1+2 | never",
                "3; 0 <= never | 1+2", "3; 0 <= 1+2 | ", "3; 0 <= | 1+2", "3; 0 <= 1+2|2+3", "3; 0 <= 1+2 2+3",
                "3; 0 <= 1+2 <= 2+3", "3; 0 <= never; ", "3; 0 <= never;", "3, 0 <= never", "0 <= never", "3; 0 <= 1+2;1 <= 0+0",
                "3; 0 <= 1+2.0", "3; 0 <= 1+0x2", "3; 0 <= 1+1_0", "3; 0 <= 1+100", "3; 0 <= 1-100", "3;  0 <= never",
                "1" + "; 0 <= never" * 25, "3; 0 <= 1*2", "(3, ())", "3; 0 <= nothing", "2; 0 <= 1+2-3", "2; 0 <= 1-2+3"):
            with self.subTest(shown(text)):
                self.assertFalse(is_text(text))
                self.assertRaises(ParseError, parse_rules, text)
        self.assertEqual(parse_rules("1" + "; 0 <= never" * 24), (1, ((0, ()),) * 24))

    def test_long_texts(self):
        start = time.process_time()
        for text in ("9" * 2000, "1" * 2000, "3" + "; 0 <= never" * 160, "3; 0 <= " + "1+2 | " * 300, "3; " * 650, "; " * 1000,
                     " | " * 600, " <= " * 500, "3; 0 <= 1+" + "0" * 1980, "-" * 2000, "+" * 2000, "3; 0 <= 1+" + "1" * 1900):
            self.assertRaises(ParseError, parse_rules, text)
        self.assertLess(time.process_time() - start, 0.2)

    def test_other_values(self):
        for value in JUNK + NO_INTEGERS + (b"2", b"3; 0 <= never", ["2"], ("2",), {"2": 0}, (2, ()), 2, R):
            with self.subTest(shown(value)):
                self.assertRaises(ParseError, parse_rules, value)

    def test_arguments_stay(self):
        for value in ([3, ()], {3: ()}, (3, [()]), nested(40)):
            before = copy.deepcopy(value)
            self.assertRaises(InvalidRules, format_rules, value)
            self.assertRaises(ParseError, parse_rules, value)
            self.assertEqual(value, before)


if __name__ == "__main__":
    unittest.main()
