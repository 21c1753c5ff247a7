"""What the document promises over the whole program: its stages agree with one another."""

import unittest

from latestof.errors import Refuted
from latestof.follow.follows import follow_certificate, follows, is_follow_certificate
from latestof.games.games import game_solution, is_game_solution
from latestof.latest.gaps import gap_certificate, greatest_gap, is_gap_certificate
from latestof.latest.latest import is_latest, latest, latest_times
from latestof.pace.pace import is_pace_certificate, pace_certificate
from latestof.pace.repair import is_least_allowance, is_repair_certificate, least_allowance, repair_certificate, repairs
from latestof.plans.clauses import AllOf, AtLeast, Compare, SomeOf
from latestof.plans.plans import Plan
from latestof.rules.rules import make_rules
from latestof.rules.times import is_solution
from latestof.solve.cores import all_cores, core_certificate, is_core_certificate
from latestof.solve.solver import excluded, is_split, is_verdict, solve, split
from latestof.store.store import Store
from latestof.terms.forms import rules_of
from latestof.text.formats import format_rules, parse_rules
from latestof.text.packed import pack, unpack
from latestof.without.between import interpolant, is_interpolant
from tests.planning import draw_plan
from tests.sayings import EVENTS
from tests.support import R, T, Draw


def rule_sets(seed, many):
    draw = Draw(seed)
    found = [(size, ()) for size in (1, 8)] + [R, T]
    for _ in range(many):
        size = draw.between(1, 8)
        low, high = ((-59, 59), (-12, 11), (-3, 2), (0, 59), (-59, 0))[draw.below(5)]
        found.append(draw.rule_set(size, draw.between(0, 24), low, high, draw.between(1, 6)))
    return found


def plan_of(rules):
    """Return a plan with a clause for each rule."""
    size, listed = rules
    plan = Plan.over(EVENTS[:size])
    for left, terms in listed:
        plan.include(SomeOf.over(EVENTS[left], tuple((EVENTS[j], c) for j, c in terms)[:6]))
    return plan


def fits(rules):
    return all(len(terms) <= 6 for _, terms in rules[1])


class Forms(unittest.TestCase):
    def test_a_rule_set_comes_back(self):
        for rules in rule_sets(181, 60):
            self.assertTrue(fits(rules))
            plan = plan_of(rules)
            store = Store(Plan.over(plan.events))
            for _, clause in plan.clauses():
                store.assume(clause)
            self.assertEqual(parse_rules(format_rules(rules)), rules)
            self.assertEqual(unpack(pack(rules)), rules)
            self.assertEqual(plan.rules, rules)
            self.assertEqual(Plan.read(str(plan)).rules, rules)
            self.assertEqual(store.plan().rules, rules)
            self.assertEqual(Plan.read(str(store.plan())), plan)
            self.assertEqual(make_rules(*rules[:1], *rules[1]), rules)

    def test_clauses_say_what_rules_say(self):
        for rules in rule_sets(182, 40):
            size, listed = rules
            plan = plan_of(rules)
            self.assertEqual(plan.is_possible(), solve(rules)[0] == "times")
            self.assertEqual(tuple(plan.latest()[event] for event in plan.events), latest_times(rules, (0,) * size))
            self.assertEqual([event for event in plan.events if plan.latest()[event] is None],
                             [EVENTS[k] for k in excluded(rules)])
            core = plan.core()
            self.assertTrue(core is None if plan.is_possible() else core in set(all_cores(rules)))
            if len(listed) <= 12:
                self.assertIn(plan.repair(), list(repairs(rules)))
            for k, (_, clause) in enumerate(list(plan.clauses())[:4]):
                rest = plan.part(tuple(j for j in range(len(listed)) if j != k))
                self.assertEqual(rest.follows(clause), follows(rest.rules, listed[k]))
            for first in range(size):
                try:
                    wanted = greatest_gap(rules, first, size - 1)
                except Refuted:
                    self.assertRaises(Refuted, plan.gap, EVENTS[first], EVENTS[size - 1])
                    continue
                self.assertEqual(plan.gap(EVENTS[first], EVENTS[size - 1]), wanted)

    def test_comparisons_say_what_expressions_say(self):
        left, right = ("max", "A", ("plus", "B", 2)), ("min", "C", ("max", "A", ("plus", "C", -5)))
        plan = Plan("A", "B", "C")
        plan.include(Compare(left, right))
        self.assertEqual(plan.rules, rules_of(3, ("max", 0, ("plus", 1, 2)), ("min", 2, ("max", 0, ("plus", 2, -5)))))


class Certificates(unittest.TestCase):
    def test_every_one_is_accepted(self):
        for rules in rule_sets(183, 60):
            size, listed = rules
            bounds = tuple(range(-3, size - 3))
            rule = (size - 1, ((0, 1),))
            self.assertTrue(is_verdict(rules, solve(rules)) and is_split(rules, split(rules)))
            self.assertTrue(is_latest(rules, bounds, latest(rules, bounds)))
            self.assertTrue(is_follow_certificate(rules, rule, follow_certificate(rules, rule)))
            self.assertTrue(is_gap_certificate(rules, 0, size - 1, gap_certificate(rules, 0, size - 1)))
            self.assertTrue(is_game_solution(rules, game_solution(rules)))
            self.assertTrue(is_repair_certificate(rules, repair_certificate(rules)))
            other = (size, listed[::-1][:9])
            self.assertTrue(is_interpolant(rules, other, interpolant(rules, other)))
            core = core_certificate(rules)
            self.assertTrue(core is None or is_core_certificate(rules, core))
            if all(-12 <= c <= 11 for _, terms in listed for _, c in terms):
                self.assertTrue(is_pace_certificate(rules, pace_certificate(rules)))
                if all(terms for _, terms in listed):
                    found = least_allowance(rules)
                    self.assertTrue(found is None or is_least_allowance(rules, found))

    def test_parts_of_results_may_be_passed_on(self):
        # A repair's times, and the refutation of a reason, are solutions and refutations of the rules.
        for rules in rule_sets(184, 40):
            dropped, times, _ = repair_certificate(rules)
            rest = (rules[0], tuple(rule for k, rule in enumerate(rules[1]) if k not in dropped))
            self.assertTrue(is_solution(rest, times))
            self.assertTrue(is_verdict(rest, ("times", times)))


class Stores(unittest.TestCase):
    def test_reports_tell_what_the_present_clauses_imply(self):
        draw = Draw(185)
        for _ in range(40):
            plan, _ = draw_plan(draw, draw.between(1, 8), 8, -20, 20)
            store = Store(plan.part(()))
            for number, clause in plan.clauses():
                store.assume(clause)
                part = plan.part(tuple(range(number + 1)))
                report = store.report()
                self.assertEqual(report[0] == "possible", part.is_possible())
                if report[0] == "impossible":
                    self.assertEqual(report[1], ())
                    self.assertEqual(plan.part(report[2]).core(), tuple(range(len(report[2]))))
                for event in plan.events[:2]:
                    own, numbers = store.reason_for(event)
                    self.assertEqual((own, plan.part(numbers).latest()[event]), ((), part.latest()[event]))

    def test_texts_of_plans_with_clauses_without_rules(self):
        plan = Plan("A", "B")
        for clause in (AllOf("A"), SomeOf("B"), AtLeast("A", "B")):
            plan.include(clause)
        store = Store(plan)
        store.assume(AllOf("B"))
        self.assertEqual(str(store.plan()), "events A B\nA by all of nothing\nB by some of nothing\nA to B at least 0\n"
                         "B by all of nothing")


if __name__ == "__main__":
    unittest.main()
