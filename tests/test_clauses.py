import copy
import time
import unittest
from itertools import product

from latestof.errors import InvalidClause, InvalidExpression, InvalidPlan, InvalidTimes, TooLarge, UnknownEvent
from latestof.plans import clauses as module
from latestof.plans.clauses import AllOf, AtLeast, AtMost, Between, Clause, Compare, SomeOf, Together
from latestof.rules.rules import is_rule_set
from latestof.rules.times import is_solution
from latestof.terms.expressions import numbered
from latestof.terms.forms import rules_of
from tests.sayings import (
    BAD_DELAYS, BAD_EVENTS, BAD_NAMES, EVENTS, GOOD_EVENTS, LETTERS, draw_saying, made, plain_events, plain_holds,
)
from tests.support import HUGE, JUNK, NO_INTEGERS, Draw, nested, shown
from tests.test_forms import MORE, SIXTY, TWENTY_FIVE, TWENTY_FOUR

NAMES = ("A", "B", "C")
SPREADS = ((AtLeast, ("least",)), (AtMost, ("most",)), (Between, ("least", "most")))
BAD_OPTIONS = NO_INTEGERS + (
    "A", ("A",), ("A", 0, 0), ["A", 0], {"A": 0}, (0, "A"), ("a", 0), (None, 0), ("", 0), ("ABCDEFGHI", 0), (b"A", 0),
    (("A",), 0), (["A"], 0), 0, nested(38),
) + tuple(("A", wrong) for wrong in BAD_DELAYS)


def named(expression, names=EVENTS):
    """Return the expression with events in place of variables."""
    if type(expression) is not tuple:
        return names[expression]
    if expression[0] == "plus":
        return "plus", named(expression[1], names), expression[2]
    return (expression[0],) + tuple(named(part, names) for part in expression[1:])


def examples():
    """Return one clause of each class, and some at the limits."""
    return [
        AtLeast("A", "B", least=3), AtMost("A", "B", most=10), Between("A", "B", least=3, most=10),
        SomeOf("C", ("A", 2), ("B", -1)), AllOf("C", ("A", 2), ("B", -1)), Together("A", "B", "C", apart=2),
        Compare(("max", ("plus", "A", 2), "B"), ("min", "C", ("plus", "D", -1))), SomeOf("A"), AllOf("A"),
        AtLeast("A", "A"), AtMost("ABCDEFGH", "Z", most=-59), Between("A", "B", least=59, most=-59), Compare("A", "A"),
    ]


class Examples(unittest.TestCase):
    def test_classes(self):
        both = Between("A", "B", least=3, most=10)
        self.assertEqual(
            [isinstance(both, AtLeast), isinstance(both, AtMost), Together("B", "A") == Together("A", "B")],
            [True, True, True])

    def test_rules(self):
        both = Between("A", "B", least=3, most=10)
        self.assertEqual(
            [both.rules_for(NAMES), SomeOf("C", ("B", -1), ("A", 2)).rules_for(NAMES)],
            [((0, ((1, -3),)), (1, ((0, 10),))), ((2, ((0, 2), (1, -1))),)])
        self.assertEqual(AllOf("C", ("B", -1), ("A", 2)).rules_for(NAMES), ((2, ((1, -1),)), (2, ((0, 2),))))

    def test_times(self):
        both = Between("A", "B", least=3, most=10)
        self.assertEqual([both.holds({"A": 0, "B": 3}), both.holds({"A": 0, "B": 11})], [True, False])

    def test_names(self):
        both = Between("A", "B", least=3, most=10)
        self.assertEqual(str(both.renamed({"A": "B", "B": "X"})), "B to X from 3 to 10")

    def test_equality(self):
        self.assertEqual(
            [Clause.read("A to B from 3 to 10") == Between("A", "B", least=3, most=10), str(AllOf("C")),
             AllOf("C", ("A", 0)) == SomeOf("C", ("A", 0))], [True, "C by all of nothing", False])


class Classes(unittest.TestCase):
    def test_bases(self):
        self.assertEqual(Clause.__bases__, (object,))
        for built in (AtLeast, AtMost, SomeOf, Together, Compare):
            self.assertEqual(built.__bases__, (Clause,))
        self.assertEqual(Between.__bases__, (AtLeast, AtMost))
        self.assertEqual(AllOf.__bases__, (SomeOf,))
        self.assertEqual((type(Clause.LIMIT), Clause.LIMIT), (int, 59))

    def test_methods_stand_in_the_classes_that_list_them(self):
        for name in ("rules_for", "holds", "renamed", "__str__", "__eq__"):
            self.assertTrue(callable(vars(Clause)[name]))
        self.assertIsInstance(vars(Clause)["events"], property)
        self.assertIsInstance(vars(Clause)["read"], staticmethod)
        for built in (AtLeast, AtMost, Between, SomeOf, AllOf, Together, Compare):
            self.assertIn("__init__", vars(built))
            self.assertEqual(built.__module__, "latestof.plans.clauses")
        for built in (SomeOf, Together):
            self.assertIsInstance(vars(built)["over"], classmethod)
        self.assertNotIn("over", vars(AllOf))

    def test_over(self):
        options = (("A", 2), ("B", -1))
        for built in (SomeOf, AllOf):
            for many in range(3):
                clause = built.over("C", options[:many])
                self.assertIs(type(clause), built)
                self.assertEqual(clause, built("C", *options[:many]))
        self.assertIs(type(Together.over(("B", "A"))), Together)
        self.assertEqual(Together.over(("B", "A")), Together("A", "B", apart=0))
        self.assertEqual(Together.over(("B", "A"), apart=7), Together("A", "B", apart=7))
        self.assertEqual(SomeOf.over(event="C", options=options), SomeOf("C", *options))
        self.assertIs(type(SomeOf("C", *options).over("C", ())), SomeOf)
        self.assertIs(type(AllOf("C").over("C", options)), AllOf)

    def test_over_takes_tuples_only(self):
        for wrong in (None, [], [("A", 2)], {}, {"A": 2}, "A", b"", 0, True, "", HUGE, (("A", 2), None), ("A", 2)):
            for built in (SomeOf, AllOf):
                self.assertRaises(InvalidClause, built.over, "C", wrong)
        for wrong in (None, [], ["A", "B"], {"A": 0, "B": 0}, "AB", b"AB", 0, True, (), ("A",), ("A", "A")):
            with self.subTest(shown(wrong)):
                self.assertRaises(InvalidClause, Together.over, wrong)
                self.assertRaises(InvalidClause, Together.over, wrong, apart=3)

    def test_keywords(self):
        self.assertRaises(TypeError, AtLeast, "A", "B", 3)
        self.assertRaises(TypeError, AtMost, "A", "B", 3)
        self.assertRaises(TypeError, Between, "A", "B", 3, 4)
        self.assertRaises(TypeError, Together.over, ("A", "B"), 3)
        self.assertEqual(AtLeast("A", "B"), AtLeast("A", "B", least=0))
        self.assertEqual(AtMost("A", "B"), AtMost("A", "B", most=0))
        self.assertEqual(Between("A", "B"), Between("A", "B", most=0, least=0))
        self.assertEqual(Together("A", "B"), Together("A", "B", apart=0))
        self.assertEqual(Compare(left="A", right="B"), Compare("A", "B"))


class Constructors(unittest.TestCase):
    def test_delays(self):
        for built, numbers in SPREADS:
            for name in numbers:
                for delay in (-59, -1, 0, 1, 59):
                    self.assertTrue(is_rule_set((2, built("A", "B", **{name: delay}).rules_for(("A", "B")))))
                for wrong in BAD_DELAYS:
                    with self.subTest(shown(wrong)):
                        self.assertRaises(InvalidClause, built, "A", "B", **{name: wrong})
        for built in (SomeOf, AllOf):
            for delay in (-59, 0, 59):
                self.assertTrue(is_rule_set((2, built("A", ("B", delay)).rules_for(("A", "B")))))

    def test_events(self):
        for event in GOOD_EVENTS:
            AtLeast(event, event), SomeOf(event, (event, 0)), Together(event, "Q"), Compare(event, ("max", event))
        for wrong in BAD_EVENTS:
            with self.subTest(shown(wrong)):
                for built, _ in SPREADS:
                    self.assertRaises(InvalidClause, built, wrong, "A")
                    self.assertRaises(InvalidClause, built, "A", wrong)
                for built in (SomeOf, AllOf):
                    self.assertRaises(InvalidClause, built, wrong)
                    self.assertRaises(InvalidClause, built, wrong, ("A", 0))
                    self.assertRaises(InvalidClause, built, "A", (wrong, 0))
                    self.assertRaises(InvalidClause, built.over, wrong, ())
                self.assertRaises(InvalidClause, Together, "A", wrong)
                self.assertRaises(InvalidClause, Together, wrong, "A", "B")
                self.assertRaises(InvalidExpression, Compare, wrong, "A")
                self.assertRaises(InvalidExpression, Compare, "A", wrong)

    def test_options(self):
        for built in (SomeOf, AllOf):
            for many in range(9):
                options = tuple(("AB"[k % 2], k) for k in range(many))
                if many <= 6:
                    self.assertEqual(built("C", *options), built.over("C", options))
                else:
                    self.assertRaises(InvalidClause, built, "C", *options)
                    self.assertRaises(InvalidClause, built.over, "C", options)
            for wrong in BAD_OPTIONS:
                with self.subTest(shown(wrong)):
                    self.assertRaises(InvalidClause, built, "C", wrong)
                    self.assertRaises(InvalidClause, built, "C", ("A", 0), wrong)
                    self.assertRaises(InvalidClause, built.over, "C", (wrong,))

    def test_together(self):
        for many in range(8):
            events = EVENTS[:many]
            if 2 <= many <= 5:
                self.assertEqual(Together(*events).events, events)
            else:
                self.assertRaises(InvalidClause, Together, *events)
                self.assertRaises(InvalidClause, Together.over, events)
        for events in (("A", "A"), ("A", "B", "A"), ("C", "B", "A", "B"), ("A", "B", "C", "D", "A")):
            self.assertRaises(InvalidClause, Together, *events)
        for apart in (0, 1, 58, 59):
            self.assertEqual(str(Together("A", "B", apart=apart)), "A, B within %d" % apart)
        for apart in (-1, -59) + BAD_DELAYS:
            with self.subTest(shown(apart)):
                self.assertRaises(InvalidClause, Together, "A", "B", apart=apart)
                self.assertRaises(InvalidClause, Together.over, ("A", "B"), apart=apart)

    def test_compare(self):
        eight, ninth = ("max", "A", "B", "C", "D", "E"), ("min", "F", "G", ("max", "H", "I"))
        self.assertEqual(len(Compare("A", ("max", ("max", "A", "B", "C", "D"), "E", "F", "G", "H")).events), 8)
        self.assertRaises(TooLarge, Compare, eight, ninth)
        with self.assertRaises(TooLarge) as caught:
            Compare(eight, ninth)
        self.assertEqual(caught.exception.limit, 8)
        self.assertEqual(len(Compare("A", ("max", "A", ("max",) + EVENTS[:4], ("max",) + EVENTS[4:])).events), 8)
        # An expression must be right before its events are counted, and these before it is worked out.
        self.assertRaises(InvalidExpression, Compare, ("max",) + EVENTS[:6], ("max", "G", "H", "I", 0))
        self.assertRaises(InvalidExpression, Compare, ("max", "G", "H", "I", None), ("max",) + EVENTS[:6])
        self.assertRaises(InvalidExpression, Compare, ("max", "G", "H", "I", 0), eight)
        wide = ("min", named(MORE), "ZZ")
        self.assertEqual(self.limit("A", wide), 8)
        self.assertEqual(self.limit(named(MORE), "A"), 60)
        self.assertEqual(self.limit("A", named(MORE)), 60)
        self.assertRaises(InvalidExpression, Compare, ("min", "A", "B"), "A")
        self.assertRaises(InvalidExpression, Compare, named(SIXTY), named(SIXTY))
        self.assertEqual(self.limit("A", named(SIXTY)), 24)
        self.assertEqual(self.limit("A", named(TWENTY_FIVE)), 24)
        self.assertEqual(len(Compare("A", named(TWENTY_FOUR)).rules_for(EVENTS)), 24)
        for total, fits in ((-60, True), (-61, False), (59, True), (60, False)):
            right = ("plus", ("plus", "B", total // 2), total - total // 2)
            if fits:
                self.assertEqual(Compare("A", right).rules_for(("A", "B")), ((0, ((1, total),)),))
            else:
                self.assertEqual(self.limit("A", right), 60)

    def limit(self, left, right):
        with self.assertRaises(TooLarge) as caught:
            Compare(left, right)
        return caught.exception.limit

    def test_compare_takes_named_expressions_only(self):
        for wrong in JUNK + (0, ("max", 0), ("max", "A", 0), ("plus", "A", 60), ("plus", "A", True), ["max", "A"], ("max",),
                             ("max",) + ("A",) * 7, ("sum", "A"), ("plus", "A"), "a", ("max", "a")):
            with self.subTest(shown(wrong)):
                self.assertRaises(InvalidExpression, Compare, wrong, "A")
                self.assertRaises(InvalidExpression, Compare, "A", wrong)


class RulesAndTimes(unittest.TestCase):
    def test_rules_by_the_words(self):
        self.assertEqual(AtLeast("A", "B", least=-59).rules_for(NAMES), ((0, ((1, 59),)),))
        self.assertEqual(AtMost("B", "A", most=59).rules_for(NAMES), ((0, ((1, 59),)),))
        self.assertEqual(AtLeast("B", "B", least=1).rules_for(NAMES), ((1, ((1, -1),)),))
        self.assertEqual(AtMost("B", "B", most=1).rules_for(NAMES), ((1, ((1, 1),)),))
        self.assertEqual(Between("B", "B", least=1, most=-1).rules_for(NAMES), ((1, ((1, -1),)), (1, ((1, -1),))))
        self.assertEqual(SomeOf("C").rules_for(NAMES), ((2, ()),))
        self.assertEqual(AllOf("C").rules_for(NAMES), ())
        repeated = (("B", 1), ("A", 3), ("B", 5), ("C", -2), ("B", -7))
        self.assertEqual(SomeOf("B", *repeated).rules_for(NAMES), ((1, ((0, 3), (1, 5), (2, -2))),))
        self.assertEqual(AllOf("B", *repeated).rules_for(NAMES),
                         ((1, ((1, 1),)), (1, ((0, 3),)), (1, ((1, 5),)), (1, ((2, -2),)), (1, ((1, -7),))))
        self.assertEqual(Together("C", "A", apart=4).rules_for(NAMES), ((0, ((2, 4),)), (2, ((0, 4),))))
        # The pairs ascend as strings, whatever the order of the names.
        self.assertEqual(Together("B", "AA", "C").rules_for(("C", "B", "AA")),
                         ((2, ((1, 0),)), (2, ((0, 0),)), (1, ((2, 0),)), (1, ((0, 0),)), (0, ((2, 0),)), (0, ((1, 0),))))
        self.assertEqual(len(Together(*EVENTS[:5]).rules_for(EVENTS)), 20)

    def test_rules_of_compare_depend_on_the_names(self):
        left, right = ("max", "A", ("plus", "B", 2)), ("min", "C", ("max", "A", ("plus", "C", -5)))
        clause = Compare(left, right)
        for names in (NAMES, ("C", "B", "A"), ("B", "C", "A"), ("D", "C", "A", "B"), EVENTS[::-1]):
            wanted = rules_of(len(names), numbered(names, left), numbered(names, right))[1]
            self.assertEqual(clause.rules_for(names), wanted)
        self.assertNotEqual(clause.rules_for(NAMES)[0][0], clause.rules_for(("C", "B", "A"))[0][0])

    def test_rules_and_holds_agree_with_the_words(self):
        draw = Draw(111)
        seen = {}
        for _ in range(700):
            events = EVENTS[:draw.between(1, 4)]
            saying = draw_saying(draw, events, -6, 6)
            clause = made(saying)
            names = tuple(sorted(events, key=lambda event: draw.below(1000))) + ("Q",) * draw.below(2)
            rules = (len(names), clause.rules_for(names))
            self.assertEqual(clause.events, plain_events(saying))
            for _ in range(10):
                times = {name: draw.between(-8, 8) for name in names}
                wanted = plain_holds(saying, times)
                self.assertIs(clause.holds(times), wanted, (saying, times))
                self.assertIs(is_solution(rules, tuple(times[name] for name in names)), wanted)
                later = {name: times[name] + HUGE for name in names}
                self.assertIs(clause.holds(later), wanted)
                seen[saying[0], wanted] = True
        self.assertEqual(len(seen), 14)

    def test_all_times_of_small_clauses(self):
        for clause, wanted in (
                (AtLeast("A", "B", least=2), lambda a, b: a + 2 <= b), (AtMost("A", "B", most=1), lambda a, b: b <= a + 1),
                (Between("A", "B", least=-1, most=1), lambda a, b: a - 1 <= b <= a + 1),
                (SomeOf("A", ("B", 1), ("A", -1)), lambda a, b: a <= b + 1), (SomeOf("A", ("A", 0)), lambda a, b: True),
                (AllOf("A", ("B", 1), ("A", -1)), lambda a, b: False), (SomeOf("B"), lambda a, b: False),
                (AllOf("B"), lambda a, b: True), (Together("A", "B", apart=1), lambda a, b: abs(a - b) <= 1),
                (Compare(("plus", "A", 1), ("max", "B", ("plus", "A", 1))), lambda a, b: True),
                (Between("A", "B", least=2, most=1), lambda a, b: False),
                (Compare("A", ("min", "B", ("plus", "A", 0))), lambda a, b: a <= b)):
            for a, b in product(range(-4, 5), repeat=2):
                self.assertIs(clause.holds({"A": a, "B": b}), wanted(a, b), (str(clause), a, b))

    def test_wrong_names_of_rules(self):
        for clause in examples():
            for wrong in BAD_NAMES:
                with self.subTest(shown(wrong)):
                    self.assertRaises(InvalidPlan, clause.rules_for, wrong)

    def test_unknown_events_of_rules(self):
        for clause in (AtLeast("C", "B"), AtMost("B", "C"), Between("C", "B"), SomeOf("C", ("B", 0), ("A", 1)),
                       AllOf("C", ("B", 0)), Together("C", "B"), Compare("C", ("max", "B", "A")), SomeOf("C"), AllOf("C")):
            for names in (("A",), ("D", "A"), ("B", "A"), ("C",), ("X", "Y")):
                missing = [event for event in clause.events if event not in names]
                if missing:
                    with self.assertRaises(UnknownEvent) as caught:
                        clause.rules_for(names)
                    self.assertEqual(caught.exception.name, min(missing))
                else:
                    clause.rules_for(names)

    def test_wrong_times(self):
        good = {"A": 1, "B": 2, "C": 3, "D": 4, "ABCDEFGH": 5, "Z": 6}
        for clause in examples():
            clause.holds(good)
            clause.holds({event: 0 for event in clause.events})
            clause.holds({**good, "A": HUGE, "ZZ": -HUGE})
            for wrong in NO_INTEGERS[:-2] + ((1, 2), [("A", 1)], 0, nested(39)):
                with self.subTest(shown(wrong)):
                    self.assertRaises(InvalidTimes, clause.holds, wrong)
            for event in BAD_EVENTS:
                if not isinstance(event, (list, dict)) and event != nested(39):
                    self.assertRaises(InvalidTimes, clause.holds, {**good, event: 0})
            for time in NO_INTEGERS:
                self.assertRaises(InvalidTimes, clause.holds, {**good, "X": time})
                self.assertRaises(InvalidTimes, clause.holds, {**good, clause.events[0]: time})
            for event in clause.events:
                less = {name: time for name, time in good.items() if name != event}
                self.assertRaises(InvalidTimes, clause.holds, less)
            self.assertRaises(InvalidTimes, clause.holds, {})

    def test_times_may_have_many_others(self):
        many = {one + other: 0 for one in LETTERS for other in LETTERS}
        self.assertIs(AtLeast("AA", "ZZ").holds(many), True)


class Renamed(unittest.TestCase):
    def test_agrees_with_the_words(self):
        draw = Draw(112)
        for _ in range(300):
            saying = draw_saying(draw, EVENTS[:4], -6, 6)
            clause = made(saying)
            order = sorted(EVENTS + ("X", "YY"), key=lambda event: draw.below(1000))
            table = {event: order[k] for k, event in enumerate(EVENTS[:4])}
            before = (str(clause), clause.events)
            other = clause.renamed(table)
            self.assertIs(type(other), type(clause))
            self.assertEqual(other.events, tuple(sorted(table[event] for event in clause.events)))
            for _ in range(8):
                times = {event: draw.between(-8, 8) for event in EVENTS[:4]}
                self.assertIs(other.holds({table[event]: times[event] for event in table}), clause.holds(times))
            back = {new: old for old, new in table.items()}
            self.assertEqual(other.renamed(back), clause)
            self.assertEqual((str(clause), clause.events), before)

    def test_texts(self):
        table = {"A": "X", "B": "A", "C": "YY"}
        self.assertEqual([str(clause.renamed(table)) for clause in examples()[:9]], [
            "X to A at least 3", "X to A at most 10", "X to A from 3 to 10", "YY by some of X + 2, A - 1",
            "YY by all of X + 2, A - 1", "A, X, YY within 2", "max(X + 2, A) <= min(YY, D - 1)", "X by some of nothing",
            "X by all of nothing"])
        for clause in examples():
            self.assertEqual(clause.renamed({}), clause)
            self.assertIs(type(clause.renamed({})), type(clause))
            self.assertEqual(clause.renamed({"QQ": "A", "RR": "A"}), clause)

    def test_words_are_not_events(self):
        self.assertEqual(Compare(("max", "MAX"), ("plus", "B", 1)).renamed({"MAX": "B", "B": "MAX"}),
                         Compare(("max", "B"), ("plus", "MAX", 1)))

    def test_errors(self):
        for clause in examples():
            for wrong in NO_INTEGERS[:-2] + ({0: 1}, {"A": 1}, {"A": None}, {"A": "a"}, {"A": ""}, {"a": "A"}, {1: "A"},
                                             {None: "A"}, {"A": ("B",)}, {"A": ["B"]}, {"Q": "ABCDEFGHI"}, {True: "A"},
                                             [("A", "B")], ("A", "B"), "A", {b"A": "B"}, {"A": b"B"}, {("A",): "B"}):
                with self.subTest(shown(wrong)):
                    self.assertRaises(InvalidClause, clause.renamed, wrong)
        for clause in (AtLeast("A", "B"), SomeOf("A", ("B", 1)), Together("A", "B", "C"), Compare("A", ("max", "B", "A"))):
            for table in ({"A": "B"}, {"B": "A"}, {"A": "Q", "B": "Q"}, {"B": "A", "C": "B"}):
                with self.subTest(table=table):
                    self.assertRaises(InvalidClause, clause.renamed, table)
            self.assertEqual(set(clause.renamed({"A": "B", "B": "A"}).events), set(clause.events))
        self.assertEqual(SomeOf("A", ("A", 1)).renamed({"A": "B"}), SomeOf("B", ("B", 1)))


class NeverChange(unittest.TestCase):
    def test_what_is_returned_gives_no_access(self):
        for clause in examples():
            before = (str(clause), clause.events, clause.rules_for(EVENTS + ()) if clause.events < EVENTS else ())
            times, names = {event: 0 for event in clause.events}, {event: event for event in clause.events}
            clause.holds(times)
            other = clause.renamed(names)
            times.clear()
            names.clear()
            self.assertIs(type(clause.events), tuple)
            self.assertEqual(other, clause)
            self.assertEqual((str(clause), clause.events), before[:2])

    def test_events_cannot_be_assigned(self):
        for clause in examples():
            with self.assertRaises(AttributeError):
                clause.events = ()

    def test_arguments_stay(self):
        for value in (["A"], {"A": ["B"]}, ("max", ["A"]), nested(40)):
            before = copy.deepcopy(value)
            self.assertRaises(InvalidClause, SomeOf, "A", value)
            self.assertRaises(InvalidClause, AtLeast, value, "A")
            self.assertRaises(InvalidExpression, Compare, value, "A")
            self.assertRaises(InvalidClause, AtLeast("A", "B").renamed, value)
            self.assertRaises(InvalidTimes, AtLeast("A", "B").holds, value)
            self.assertEqual(value, before)


class Equality(unittest.TestCase):
    def test_same_class_and_equal_arguments(self):
        for k, one in enumerate(examples()):
            for j, other in enumerate(examples()):
                self.assertIs(one == other, k == j)
                self.assertIs(one != other, k != j)

    def test_arguments_count(self):
        different = [
            SomeOf("C", ("A", 1), ("B", 2)), SomeOf("C", ("B", 2), ("A", 1)), SomeOf("C", ("A", 1), ("A", 1)),
            SomeOf("C", ("A", 1)), AllOf("C", ("A", 1)), AllOf("C", ("A", 1), ("B", 2)), AllOf("C", ("B", 2), ("A", 1)),
            AtLeast("A", "B"), AtMost("A", "B"), Between("A", "B"), AtLeast("B", "A"), AtLeast("A", "B", least=1),
            Between("A", "B", least=1), Between("A", "B", most=1), Compare("A", "B"), Compare("B", "A"),
            Compare(("max", "A"), "B"), Compare("A", ("plus", "B", 0)), Compare("A", ("max", "B", "C")),
            Compare("A", ("max", "C", "B")), Together("A", "B"), Together("A", "B", apart=1), Together("A", "C"),
        ]
        for k, one in enumerate(different):
            for j, other in enumerate(different):
                self.assertIs(one == other, k == j, (str(one), str(other)))
        for events in (("A", "B", "C"), ("C", "B", "A"), ("B", "C", "A")):
            self.assertEqual(Together(*events, apart=3), Together("A", "B", "C", apart=3))

    def test_other_values(self):
        for clause in examples():
            for value in JUNK + (str(clause), clause.events, clause.rules_for(clause.events), Clause, AtLeast, object()):
                self.assertIs(clause == value, False)
                self.assertIs(clause != value, True)
                self.assertIs(value == clause, False)


class Quick(unittest.TestCase):
    def test_great_clauses(self):
        start = time.process_time()
        for _ in range(40):
            clause = Compare("A", named(TWENTY_FOUR))
            clause.rules_for(EVENTS)
            clause.holds({event: 3 for event in EVENTS})
            str(clause.renamed({"A": "B", "B": "A"}))
            Together(*EVENTS[:5]).rules_for(EVENTS)
        self.assertLess(time.process_time() - start, 0.02 * 40)

    def test_limits_of_the_file(self):
        self.assertEqual((module.MAX_OPTIONS, module.MAX_TOGETHER), (6, 5))


if __name__ == "__main__":
    unittest.main()
