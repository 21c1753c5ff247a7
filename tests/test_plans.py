import copy
import inspect
import re
import unittest

from latestof.errors import InvalidBounds, InvalidClause, InvalidNumber, InvalidPlan, ParseError, TooLarge, UnknownEvent
from latestof.plans.clauses import AllOf, AtLeast, AtMost, Between, Clause, Compare, SomeOf, Together
from latestof.plans.plans import Plan
from latestof.rules.rules import is_rule_set
from tests.planning import Grid, draw_plan
from tests.sayings import BAD_EVENTS, BAD_NAMES, EVENTS, GOOD_EVENTS, made, plain_saying_text, text_variants
from tests.support import HUGE, JUNK, NO_INTEGERS, Draw, lowered, nested, shown
from tests.test_clause_texts import is_text

# None of these is a clause.
NO_CLAUSES = JUNK + NO_INTEGERS + ("A to B at least 3", AtLeast, Clause, ("A", "B"), Plan("A"), (AtLeast("A", "B"),))
# None of these is an integer from -200 to 200.
BAD_BOUNDS = NO_INTEGERS + (201, -201, HUGE, -HUGE)


def example():
    plan = Plan("A", "B", "C")
    for clause in (AtLeast("A", "B", least=3), SomeOf("C", ("A", 2), ("B", -1)), AtMost("A", "C", most=1)):
        plan.include(clause)
    return plan


def full(many=24):
    """Return a plan about eight events with so many rules."""
    plan = Plan(*EVENTS)
    for k in range(many):
        plan.include(AtLeast(EVENTS[k % 7], EVENTS[k % 7 + 1], least=k % 3))
    return plan


def shape(plan):
    """Return all that a plan shows of itself."""
    return plan.events, plan.horizon, list(plan.clauses()), plan.rules, len(plan), str(plan), plan.latest(), plan.times()


def is_plan_text(text):
    """Return whether the text is that of a plan with few clauses, by patterns."""
    first, *lines = text.split("\n")
    if re.fullmatch("events(?: [A-Z]{1,8}){1,8}", first) is None:
        return False
    events = first.split(" ")[1:]
    if lines and lines[0].startswith("horizon"):
        if re.fullmatch("horizon -?(?:[1-9]|[1-9][0-9]|1[0-9][0-9]|200)", lines[0]) is None:
            return False
        del lines[0]
    if len(set(events)) < len(events) or not all(is_text(line) for line in lines):
        return False
    return set(re.findall("[A-Z]+", re.sub("[a-z]", " ", " ".join(lines)))) <= set(events)


class Examples(unittest.TestCase):
    def test_include(self):
        plan = Plan("A", "B", "C")
        self.assertEqual(
            [plan.include(AtLeast("A", "B", least=3)), plan.include(SomeOf("C", ("A", 2), ("B", -1))),
             plan.include(AtMost("A", "C", most=1))], [0, 1, 2])
        self.assertEqual(plan.rules, (3, ((0, ((1, -3),)), (2, ((0, 2), (1, -1))), (2, ((0, 1),)))))

    def test_parts(self):
        plan = example()
        self.assertEqual([[str(clause) for number, clause in plan.part((0, 2)).clauses()], plan.owner(2)],
                         [["A to B at least 3", "A to C at most 1"], 2])

    def test_latest(self):
        self.assertEqual([example().latest(), example().latest({"B": 7, "C": 9}, B=10)],
                         [{"A": -3, "B": 0, "C": -2}, {"A": 0, "B": 10, "C": 1}])

    def test_text(self):
        plan = example()
        self.assertEqual(
            [str(plan), Plan.read(str(plan)) == plan],
            ["events A B C\nA to B at least 3\nC by some of A + 2, B - 1\nA to C at most 1", True])


class Construction(unittest.TestCase):
    def test_events(self):
        for events in [EVENTS[:many] for many in range(1, 9)] + [GOOD_EVENTS, ("C", "A", "B"), ("ABCDEFGH",)]:
            for plan in (Plan(*events), Plan.over(events)):
                self.assertIs(type(plan), Plan)
                self.assertEqual((plan.events, plan.horizon, len(plan), plan.rules), (events, 0, 0, (len(events), ())))
                self.assertEqual((list(plan.clauses()), plan.is_possible(), plan.core()), ([], True, None))
        self.assertEqual((Plan.EVENTS, Plan.RULES, Plan("A").EVENTS), (8, 24, 8))

    def test_wrong_events(self):
        for wrong in BAD_NAMES:
            with self.subTest(shown(wrong)):
                self.assertRaises(InvalidPlan, Plan.over, wrong)
                if isinstance(wrong, tuple):
                    self.assertRaises(InvalidPlan, Plan, *wrong)
        for wrong in BAD_EVENTS:
            self.assertRaises(InvalidPlan, Plan, wrong)
            self.assertRaises(InvalidPlan, Plan, "A", wrong)
        self.assertRaises(InvalidPlan, Plan)
        self.assertRaises(InvalidPlan, Plan, *(EVENTS + ("I",)))
        self.assertRaises(InvalidPlan, Plan, ("A", "B"))

    def test_only_the_horizon_can_be_assigned(self):
        plan = example()
        for name in ("events", "rules"):
            with self.assertRaises(AttributeError):
                setattr(plan, name, ("A",))
        self.assertEqual(shape(plan), shape(example()))

    def test_horizon(self):
        plan = example()
        for value in (-200, -1, 0, 7, 200):
            other = example().with_horizon(value)
            plan.horizon = value
            self.assertEqual((plan.horizon, other.horizon), (value, value))
            self.assertEqual(plan, other)
            self.assertEqual(plan.latest(), {"A": value - 3, "B": value, "C": value - 2})
            self.assertEqual(plan.times().keys(), {"A", "B", "C"})
        for wrong in BAD_BOUNDS:
            with self.subTest(shown(wrong)):
                for call in (lambda: plan.with_horizon(wrong), lambda: setattr(plan, "horizon", wrong)):
                    with self.assertRaises(InvalidNumber) as caught:
                        call()
                    self.assertIs(caught.exception.value, wrong)
                self.assertEqual(plan.horizon, 200)

    def test_with_horizon_makes_another_plan(self):
        plan = example()
        other = plan.with_horizon(5)
        other.include(AtLeast("B", "C"))
        other.horizon = 6
        self.assertEqual(shape(plan), shape(example()))
        plan.include(AtLeast("C", "A"))
        self.assertEqual([str(clause) for _, clause in other.clauses()][3:], ["B to C at least 0"])


class Include(unittest.TestCase):
    def test_rules_of_all_clauses_in_order(self):
        draw = Draw(131)
        for _ in range(80):
            plan, sayings = draw_plan(draw, draw.between(1, 8), draw.between(0, 9), -9, 9)
            wanted = tuple(rule for saying in sayings for rule in made(saying).rules_for(plan.events))
            self.assertEqual(plan.rules, (len(plan.events), wanted))
            self.assertTrue(is_rule_set(plan.rules))
            self.assertEqual(list(plan.clauses()), list(enumerate(made(saying) for saying in sayings)))
            owners = [k for k, saying in enumerate(sayings) for _ in made(saying).rules_for(plan.events)]
            self.assertEqual([plan.owner(k) for k in range(len(owners))], owners)
            self.assertEqual(len(plan), len(sayings))

    def test_twenty_four_rules(self):
        for many in (0, 4, 23, 24):
            plan = full(many)
            before = shape(plan)
            for clause, rules in ((AtLeast("A", "B"), 1), (Between("A", "B"), 2), (Together(*EVENTS[:5]), 20),
                                  (AllOf("A", *(("B", k) for k in range(6))), 6), (SomeOf("A"), 1)):
                if many + rules <= 24:
                    self.assertEqual(plan.with_horizon(0).include(clause), many)
                else:
                    with self.assertRaises(TooLarge) as caught:
                        plan.include(clause)
                    self.assertEqual(caught.exception.limit, 24)
                self.assertEqual(shape(plan), before)
        plan = full(18)
        plan.include(AllOf("A", *(("B", k) for k in range(6))))
        self.assertEqual(len(plan.rules[1]), 24)
        for k in range(40):
            self.assertEqual(plan.include(AllOf("H")), 19 + k)
        self.assertRaises(TooLarge, plan.include, AtLeast("A", "B"))
        self.assertEqual((len(plan), len(plan.rules[1])), (59, 24))

    def test_errors_in_order(self):
        plan = full(24)
        for wrong in NO_CLAUSES:
            with self.subTest(shown(wrong)):
                for call in (plan.include, plan.support, plan.follows):
                    self.assertRaises(InvalidClause, call, wrong)
        for clause, name in ((AtLeast("Z", "A"), "Z"), (SomeOf("X", ("Z", 0), ("W", 1)), "W"), (Compare("A", "ZZ"), "ZZ"),
                             (AllOf("Q"), "Q"), (Together("Y", "X", "A"), "X"), (SomeOf("Q"), "Q")):
            for call in (plan.include, plan.support, plan.follows):
                with self.assertRaises(UnknownEvent) as caught:
                    call(clause)
                self.assertEqual(caught.exception.name, name)
        self.assertEqual(shape(plan), shape(full(24)))

    def test_clauses_as_of_the_first_value(self):
        plan = example()
        rows = plan.clauses()
        self.assertTrue(inspect.isgenerator(rows))
        plan.include(AtLeast("B", "C"))
        self.assertEqual(next(rows), (0, AtLeast("A", "B", least=3)))
        plan.include(AtLeast("C", "A"))
        self.assertEqual([number for number, _ in rows], [1, 2, 3])
        self.assertEqual([number for number, _ in plan.clauses()], [0, 1, 2, 3, 4])

    def test_owner_of_rules_only(self):
        plan = Plan("A", "B")
        for clause in (AllOf("A"), Between("A", "B"), AllOf("B"), SomeOf("A"), AllOf("A", ("B", 1), ("B", 2), ("A", 3))):
            plan.include(clause)
        self.assertEqual([plan.owner(k) for k in range(6)], [1, 1, 3, 4, 4, 4])
        for wrong in NO_INTEGERS + (6, -1, HUGE, -HUGE):
            with self.subTest(shown(wrong)):
                with self.assertRaises(InvalidNumber) as caught:
                    plan.owner(wrong)
                self.assertIs(caught.exception.value, wrong)
        self.assertRaises(InvalidNumber, Plan("A").owner, 0)


class Parts(unittest.TestCase):
    def test_all_parts(self):
        plan = example().with_horizon(-7)
        clauses = [clause for _, clause in plan.clauses()]
        for numbers in ((), (0,), (1,), (2,), (0, 1), (0, 2), (1, 2), (0, 1, 2)):
            part = plan.part(numbers)
            self.assertEqual((part.events, part.horizon), (plan.events, -7))
            self.assertEqual(list(part.clauses()), list(enumerate(clauses[k] for k in numbers)))
            self.assertEqual(part == plan, len(numbers) == 3)
            part.include(AtLeast("C", "B"))
            part.horizon = 9
        self.assertEqual(shape(plan), shape(example().with_horizon(-7)))

    def test_wrong_numbers(self):
        for plan in (example(), Plan("A")):
            for wrong in NO_INTEGERS[:8] + NO_INTEGERS[9:] + (
                    [0], 0, (3,), (-1,), (0, 3), (1, 0), (0, 0), (True,), (0, True), (None,), ("0",), ((0,),), (HUGE,), {0: 0},
                    (False, 1), (0, [1]), nested(39)):
                if wrong == (1,) and len(plan):
                    continue
                with self.subTest(shown(wrong)):
                    for call in (plan.part, lambda numbers: plan.repair(keep=numbers)):
                        with self.assertRaises(InvalidNumber) as caught:
                            call(wrong)
                        self.assertIs(caught.exception.value, wrong)


class Times(unittest.TestCase):
    def test_agree_with_the_words(self):
        draw = Draw(132)
        kinds = set()
        grids = {size: Grid(EVENTS[:size]) for size in (1, 2, 3)}
        for _ in range(120):
            size = draw.between(1, 3)
            plan, sayings = draw_plan(draw, size, draw.between(0, 4))
            common = grids[size].common([grids[size].mask(saying) for saying in sayings])
            times = plan.times()
            self.assertIs(plan.is_possible(), common != 0, str(plan))
            self.assertEqual(times is not None, common != 0)
            kinds.add(common != 0)
            if times is not None:
                self.assertEqual(list(times), sorted(plan.events))
                self.assertTrue(all(clause.holds(times) for _, clause in plan.clauses()))
        self.assertEqual(kinds, {True, False})

    def test_what_is_returned_gives_no_access(self):
        plan = example()
        before = shape(plan)
        plan.times().clear()
        plan.latest()["A"] = 99
        plan.support(AtLeast("B", "C"))[1].clear()
        bounds = {"A": 3}
        plan.latest(bounds)
        bounds["A"] = "x"
        self.assertEqual(shape(plan), before)


class Latest(unittest.TestCase):
    def test_agree_with_rules(self):
        draw = Draw(133)
        kinds = set()
        for _ in range(150):
            plan, _ = draw_plan(draw, draw.between(1, 8), draw.between(0, 8), -9, 9)
            plan.horizon = draw.between(-200, 200)
            given = {event: draw.between(-200, 200) for event in plan.events if draw.below(3) == 0}
            more = {event: draw.between(-200, 200) for event in plan.events if draw.below(3) == 0}
            bounds = [more.get(event, given.get(event, plan.horizon)) for event in plan.events]
            wanted = dict(zip(plan.events, lowered(plan.rules, bounds)))
            before = (dict(given), dict(more))
            found = plan.latest(given, **more)
            self.assertEqual(found, wanted)
            self.assertEqual(list(found), sorted(plan.events))
            self.assertEqual((given, more), before)
            self.assertEqual(plan.latest(bounds=given, **more), wanted)
            self.assertEqual(plan.latest(None, **{**given, **more}), wanted)
            kinds.add(None in wanted.values())
        self.assertEqual(kinds, {True, False})

    def test_bounds_at_the_limits(self):
        plan = Plan("A", "B")
        self.assertEqual(plan.latest({"A": -200}, B=200), {"A": -200, "B": 200})
        self.assertEqual(plan.latest({}), {"A": 0, "B": 0})
        self.assertEqual(plan.latest({"B": 3, "A": 1}, B=2, A=2), {"A": 2, "B": 2})

    def test_wrong_bounds(self):
        plan = example()
        for call in (plan.latest, lambda *bounds, **more: plan.reason_for("A", *bounds, **more)):
            for wrong in NO_INTEGERS[:2] + NO_INTEGERS[3:-2] + (0, (1, 2), [("A", 1)], {0: 1}, {"A": 1, "Z": 2}, {"Z": 0}, {"a": 0}, {None: 0},
                                             {True: 0}, {b"A": 0}, {("A",): 0}, {"": 0}, "A", nested(39)):
                with self.subTest(shown(wrong)):
                    self.assertRaises(InvalidBounds, call, wrong)
                    self.assertRaises(InvalidBounds, call, wrong, Z=0)
            for wrong in BAD_BOUNDS:
                with self.subTest(shown(wrong)):
                    self.assertRaises(InvalidBounds, call, {"A": wrong})
                    self.assertRaises(InvalidBounds, call, {"A": 0, "B": wrong}, B=0)
                    self.assertRaises(InvalidBounds, call, B=wrong)
                    self.assertRaises(InvalidBounds, call, {"B": 0}, A=0, B=wrong)
            for more, name in (({"Z": 0}, "Z"), ({"Z": 0, "X": None}, "X"), ({"A": None, "D": 0}, "D"), ({"a": 0}, "a"),
                               ({"B": 201, "ZZ": 3, "ZA": 3}, "ZA"), ({"abc": 1, "Z": 1}, "Z")):
                with self.assertRaises(UnknownEvent) as caught:
                    call({"A": 0}, **more)
                self.assertEqual(caught.exception.name, name)

    def test_unknown_event_of_reasons_comes_first(self):
        plan = example()
        for wrong in BAD_EVENTS + ("D", "AA", HUGE):
            with self.subTest(shown(wrong)):
                for rest, more in (((), {}), ((0,), {}), ((), {"Z": 0}), (({"A": 201},), {})):
                    with self.assertRaises(UnknownEvent) as caught:
                        plan.reason_for(wrong, *rest, **more)
                    self.assertIs(caught.exception.name, wrong)


class Equality(unittest.TestCase):
    def test_events_horizon_and_clauses_in_order(self):
        def plan(events, horizon, *clauses):
            made_plan = Plan(*events).with_horizon(horizon)
            for clause in clauses:
                made_plan.include(clause)
            return made_plan

        one, two = AtLeast("A", "B"), AtMost("A", "B")
        different = [plan("AB", 0), plan("BA", 0), plan("AB", 1), plan("ABC", 0), plan("AB", 0, one), plan("AB", 0, two),
                     plan("AB", 0, one, two), plan("AB", 0, two, one), plan("AB", 0, one, one), plan("BA", 0, one),
                     plan("AB", 0, Between("A", "B")), plan("AB", 0, Compare("A", "B")), plan("AB", 0, AllOf("A"))]
        for k, left in enumerate(different):
            for j, right in enumerate(different):
                self.assertIs(left == right, k == j)
                self.assertIs(left != right, k != j)
            self.assertEqual(left, left.with_horizon(left.horizon))
            for value in JUNK + (str(left), left.events, left.rules, Plan, one):
                self.assertIs(left == value, False)
                self.assertIs(value == left, False)

    def test_length(self):
        self.assertEqual([len(full(many)) for many in (0, 1, 24)], [0, 1, 24])


class Texts(unittest.TestCase):
    def test_drawn_plans(self):
        draw = Draw(134)
        for _ in range(150):
            plan, sayings = draw_plan(draw, draw.between(1, 8), draw.between(0, 7), -59, 59)
            plan.horizon = (0, draw.between(-200, 200))[draw.below(2)]
            lines = ["events " + " ".join(plan.events)] + ["horizon %d" % plan.horizon] * (plan.horizon != 0)
            text = "\n".join(lines + [plain_saying_text(saying) for saying in sayings])
            self.assertEqual(str(plan), text)
            other = Plan.read(text)
            self.assertIs(type(other), Plan)
            self.assertEqual(other, plan)
            self.assertEqual(shape(other), shape(plan))

    def test_horizons(self):
        for horizon in range(-210, 211):
            text = "events A\nhorizon %d" % horizon
            if horizon != 0 and -200 <= horizon <= 200:
                self.assertEqual(Plan.read(text), Plan("A").with_horizon(horizon))
            else:
                self.assertRaises(ParseError, Plan.read, text)
        self.assertEqual(str(Plan("A").with_horizon(-200)), "events A\nhorizon -200")

    def test_numbers_of_events_and_rules(self):
        for many in range(0, 11):
            text = "events " + " ".join("ABCDEFGHIJ"[:many])
            if 1 <= many <= 8:
                self.assertEqual(Plan.read(text), Plan(*EVENTS[:many]))
            else:
                self.assertRaises(ParseError, Plan.read, text)
        for many in (23, 24):
            self.assertEqual(Plan.read(str(full(many))), full(many))
        self.assertRaises(ParseError, Plan.read, str(full(24)) + "\nA to B at least 3")
        longer = full(24)
        for _ in range(200):
            longer.include(AllOf("A"))
        self.assertGreater(len(str(longer)), 2000)
        self.assertEqual(Plan.read(str(longer)), longer)

    def test_read_accepts_exactly_the_texts(self):
        accepted = 0
        for plan in (example(), example().with_horizon(10), Plan("A"), Plan("B", "A").with_horizon(-3)):
            text = str(plan)
            for other in text_variants(text) + [text.replace("\n", "\r\n"), text.replace("\n", "\n\n"), "\n" + text]:
                if is_plan_text(other):
                    self.assertEqual(str(Plan.read(other)), other)
                    accepted += 1
                else:
                    with self.subTest(other):
                        self.assertRaises(ParseError, Plan.read, other)
        self.assertGreater(accepted, 50)

    def test_other_texts(self):
        for text in (
                "", "events", "events ", "events A ", "events  A", " events A", "events A A", "events a", "events A,B",
                "Events A", "event A", "A B", "events A\n", "events A\n\n", "events A\nhorizon 0", "events A\nhorizon",
                "events A\nhorizon ", "events A\nhorizon +5", "events A\nhorizon 05", "events A\nhorizon -0",
                "events A\nhorizon 5 ", "events A\nhorizon 5\nhorizon 5", "events A\nhorizon 5.", "events A\nhorizon  5",
                "events A\nHorizon 5", "horizon 5\nevents A", "events A\nA to A at least 1\nhorizon 5", "events A\nhorizon A",
                "events A\nA to B at least 3", "events A B\nA to B at least 03", "events A B\nA to B at least 3\n",
                "events A B\n A to B at least 3", "events A B\nevents A B", "events A B\nB to A", "events A B\rA to B at least 3",
                "events A B\nA to B at least 3;A to B at least 3", "events A B\nA, C within 3", "events ABCDEFGHI",
                "events A\thorizon 5", "events A\nhorizon " + "9" * 1000, "events " + "A " * 900, "\n" * 1999,
                "plan A B", "events A B\nnothing", "events A horizon 5"):
            with self.subTest(shown(text)):
                self.assertRaises(ParseError, Plan.read, text)

    def test_other_values(self):
        for value in JUNK + NO_INTEGERS + (b"events A", ["events A"], ("events A",), Plan("A"), AtLeast("A", "B"), 3):
            with self.subTest(shown(value)):
                self.assertRaises(ParseError, Plan.read, value)

    def test_arguments_stay(self):
        plan = example()
        for value in (["A"], {"A": [1]}, ("A", [1]), nested(40)):
            before = copy.deepcopy(value)
            self.assertRaises(InvalidPlan, Plan.over, value)
            self.assertRaises(InvalidClause, plan.include, value)
            self.assertRaises(InvalidNumber, plan.part, value)
            self.assertRaises(InvalidBounds, plan.latest, value)
            self.assertRaises(ParseError, Plan.read, value)
            self.assertEqual(value, before)


if __name__ == "__main__":
    unittest.main()
