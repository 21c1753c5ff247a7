import re
import time
import unittest

from latestof.errors import ParseError
from latestof.plans.clauses import AllOf, AtLeast, AtMost, Between, Clause, Compare, SomeOf, Together
from tests.sayings import EVENTS, draw_saying, made, plain_parsed, plain_saying_text, text_variants
from tests.support import JUNK, NO_INTEGERS, Draw, shown
from tests.test_clauses import examples, named
from tests.test_forms import MORE, SIXTY, TWENTY_FIVE, TWENTY_FOUR

NUMBER = "(0|-?[1-9]|-?[1-5][0-9])"
EVENT = "([A-Z]{1,8})"
OPTION = "[A-Z]{1,8}(?: [+-] (?:[1-9]|[1-5][0-9]))?"
PATTERNS = (
    re.compile(EVENT + " to " + EVENT + " at (?:least|most) " + NUMBER),
    re.compile(EVENT + " to " + EVENT + " from " + NUMBER + " to " + NUMBER),
    re.compile(EVENT + " by (?:some|all) of (?:nothing|" + OPTION + "(?:, " + OPTION + "){0,5})"),
)


def is_text(text):
    """Return whether the text is that of a clause, by patterns."""
    if any(pattern.fullmatch(text) for pattern in PATTERNS):
        return True
    match = re.fullmatch("((?:[A-Z]{1,8}, ){1,4}[A-Z]{1,8}) within ([0-9]|[1-5][0-9])", text)
    if match is not None:
        events = match.group(1).split(", ")
        return events == sorted(set(events))
    sides = [plain_parsed(side) for side in text.split(" <= ")]
    if len(sides) != 2 or None in sides:
        return False
    try:
        return str(Compare(*sides)) == text
    except (ValueError, OverflowError):
        return False


class Texts(unittest.TestCase):
    def test_table(self):
        for clause, text in (
                (AtLeast("A", "B", least=3), "A to B at least 3"), (AtMost("A", "B", most=10), "A to B at most 10"),
                (Between("A", "B", least=3, most=10), "A to B from 3 to 10"),
                (SomeOf("C", ("A", 2), ("B", -1)), "C by some of A + 2, B - 1"),
                (AllOf("C", ("A", 2), ("B", -1)), "C by all of A + 2, B - 1"),
                (Together("C", "B", "A", apart=2), "A, B, C within 2"),
                (Compare(("max", ("plus", "A", 2), "B"), ("min", "C", ("plus", "D", -1))),
                 "max(A + 2, B) <= min(C, D - 1)"),
                (SomeOf("C"), "C by some of nothing"), (AllOf("C"), "C by all of nothing"),
                (SomeOf("C", ("A", 0), ("B", 0)), "C by some of A, B"), (AtLeast("A", "A", least=-59), "A to A at least -59"),
                (AtMost("A", "B"), "A to B at most 0"), (Between("A", "B", least=-1, most=-2), "A to B from -1 to -2"),
                (Together("AA", "B", "A"), "A, AA, B within 0"), (Compare("A", ("plus", "A", 0)), "A <= A + 0"),
                (SomeOf("NOTHING", ("NOTHING", 0)), "NOTHING by some of NOTHING")):
            self.assertEqual(str(clause), text)
            self.assertEqual(Clause.read(text), clause)
            self.assertIs(type(Clause.read(text)), type(clause))

    def test_drawn_clauses(self):
        draw = Draw(121)
        for _ in range(500):
            saying = draw_saying(draw, EVENTS[:4] + ("ABCDEFGH",))
            clause = made(saying)
            text = str(clause)
            self.assertEqual(text, plain_saying_text(saying))
            self.assertTrue(is_text(text), text)
            other = clause.read(text)
            self.assertEqual(other, clause)
            self.assertIs(type(other), type(clause))

    def test_read_accepts_exactly_the_texts(self):
        draw = Draw(122)
        accepted = 0
        texts = [str(clause) for clause in examples()]
        texts += [plain_saying_text(draw_saying(draw, EVENTS[:3])) for _ in range(40)]
        for text in texts:
            for other in text_variants(text):
                if is_text(other):
                    self.assertEqual(str(Clause.read(other)), other)
                    accepted += 1
                else:
                    with self.subTest(other):
                        self.assertRaises(ParseError, Clause.read, other)
        self.assertGreater(accepted, 1000)

    def test_numbers(self):
        for start, low in (("A to B at least ", -59), ("A to B at most ", -59), ("A, B within ", 0),
                           ("A to B from 0 to ", -59)):
            for number in range(-70, 71):
                text = start + str(number)
                if low <= number <= 59:
                    self.assertEqual(str(Clause.read(text)), text)
                else:
                    self.assertRaises(ParseError, Clause.read, text)
            for digits in ("", "-", "+1", "+0", "-0", "00", "01", "-01", "010", "1.0", "1e1", "0x1", " 1", "1 ", "--1", "1_0",
                           "100", "059", "060", "-060", "9" * 1900, "-" + "9" * 1900, "A", "B + 1", "one", "1\n", "None"):
                self.assertRaises(ParseError, Clause.read, start + digits)
        for number in range(-70, 71):
            for kind in ("some", "all"):
                for sign in "+-":
                    text = "A by %s of B %s %d" % (kind, sign, number)
                    if 1 <= number <= 59:
                        self.assertEqual(str(Clause.read(text)), text)
                    else:
                        self.assertRaises(ParseError, Clause.read, text)

    def test_counts(self):
        for kind in ("some", "all"):
            for many in range(1, 10):
                text = "A by %s of " % kind + ", ".join(["B + 1"] * many)
                if many <= 6:
                    self.assertEqual(str(Clause.read(text)), text)
                else:
                    self.assertRaises(ParseError, Clause.read, text)
        for many in range(0, 9):
            text = ", ".join(EVENTS[:many]) + " within 3"
            if 2 <= many <= 5:
                self.assertEqual(Clause.read(text), Together(*EVENTS[:many], apart=3))
            else:
                self.assertRaises(ParseError, Clause.read, text)

    def test_order_of_events(self):
        for text in ("B, A within 2", "A, A within 2", "A, C, B within 0", "A, B, A within 1", "B, AA within 1"):
            self.assertRaises(ParseError, Clause.read, text)

    def test_compare(self):
        def text_of(left, right):
            return plain_saying_text(("Compare", {"left": left, "right": right}))

        self.assertEqual(Clause.read(text_of("A", named(TWENTY_FOUR))), Compare("A", named(TWENTY_FOUR)))
        for left, right in (("A", named(TWENTY_FIVE)), ("A", named(MORE)), (named(MORE), "A"), ("A", named(SIXTY)),
                            (("min", "A", "B"), "A"), ("A", ("plus", ("plus", "B", 59), 1)),
                            (("max", "A", "B", "C", "D", "E"), ("max", "F", "G", "H", "I"))):
            self.assertRaises(ParseError, Clause.read, text_of(left, right))
        for text in ("A <= ", " <= A", "A <= B <= C", "A < B", "A >= B", "A<=B", "A <=  B", "A  <= B", "A = B", "A <= b",
                     "A <= B + 60", "A <= B - 0", "A <= B, C", "max(A <= B)", "A <= max()", "A + 2 <= B)", "<="):
            self.assertRaises(ParseError, Clause.read, text)

    def test_other_texts(self):
        for text in ("", " ", "A", "A to", "A to B", "A to B at", "A to B at least", "A to B at 3", "A to B least 3",
                     "A to B from 3", "A to B from 3 to", "A to B from 3 at 10", "A from 3 to 10", "to B at least 3",
                     "A by some of", "A by some of ", "A by of B", "A by any of B", "A by some B", "by some of B",
                     "A by some of B,C", "A by some of B, ", "A by some of , B", "A by some of B C", "A by some of B + C",
                     "A by some of nothing, B", "A by some of B, nothing", "A by all of nothing + 1", "A by all of Nothing",
                     "A within 2", "A, B within", "A, B", "A B within 2", "A,B within 2", "A, B, within 2", "within 2",
                     "A to B within 2", "A to B at least 3 at most 4", "a to b at least 3", "A To B at least 3",
                     "A to B at Least 3", "AtLeast A B 3", "nothing", "A to B at least 3\n", "A to B at least 3\nA",
                     "A by some of B by all of C", "A by some of B within 3", "A, B within 2 within 3", "events A B",
                     "A to B to C at least 3", "A to B at at least 3", "AtoB at least 3", "A to B at least3"):
            with self.subTest(text):
                self.assertRaises(ParseError, Clause.read, text)

    def test_other_values(self):
        for value in JUNK + NO_INTEGERS + (b"A to B at least 3", ["A to B at least 3"], ("A", "B"), AtLeast("A", "B"), 3):
            with self.subTest(shown(value)):
                self.assertRaises(ParseError, Clause.read, value)

    def test_long_texts(self):
        start = time.process_time()
        for text in ("A to " * 400, "A, " * 660 + "B within 2", "A by some of " + ", ".join(["B + 1"] * 280), " to " * 500,
                     "A <= " * 400 + "B", "A <= " + "max(" * 490, "A" * 2000, "A" * 1000 + " to B at least 3", "3" * 2000,
                     " within " * 250, "A by all of " * 160, ", " * 1000, " " * 2000, "\n" * 2000):
            self.assertRaises(ParseError, Clause.read, text)
        self.assertLess(time.process_time() - start, 0.3)


if __name__ == "__main__":
    unittest.main()
