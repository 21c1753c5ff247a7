"""Tests that the names and the arguments of the document's interface exist where it lists them."""

import inspect
import unittest
from importlib import import_module

from tests.support import R

FUNCTIONS = {
    "latestof.rules.rules": (
        "is_rule(size, value)", "is_rule_set(value)", "make_rules(size, *rules)", "rules_from(size, rules)",
        "merged(first, *others)", "merged_all(parts)", "negation(size, rule)", "simplified(rules)",
        "with_delay(rules, amount)",
    ),
    "latestof.rules.times": (
        "is_times(size, value)", "is_solution(rules, value)", "right_side(rules, index, times)",
        "broken_rules(rules, times)", "shifted(times, by)", "greatest_of(first, *others)", "greatest_of_all(rows)",
        "solutions_between(rules, low, high)",
    ),
    "latestof.solve.solver": (
        "solve(rules)", "is_refutation(rules, value)", "is_verdict(rules, value)", "split(rules)",
        "is_split(rules, value)", "excluded(rules)",
    ),
    "latestof.solve.cores": (
        "core_certificate(rules)", "is_core_certificate(rules, value)", "all_cores(rules)",
    ),
    "latestof.follow.follows": (
        "follow_certificate(rules, rule)", "follows(rules, rule)", "is_follow_certificate(rules, rule, value)",
        "difference(first, second)", "reduced(rules)", "reduction_certificate(rules)",
        "is_reduction_certificate(rules, value)",
    ),
    "latestof.latest.latest": (
        "latest(rules, bounds)", "latest_times(rules, bounds)", "is_latest(rules, bounds, value)",
        "bound_chain(rules, bounds, variable)",
    ),
    "latestof.latest.gaps": (
        "gap_certificate(rules, variable, other)", "is_gap_certificate(rules, variable, other, value)",
        "greatest_gap(rules, variable, other)",
    ),
    "latestof.without.elimination": (
        "without(rules, variable)", "sources(rules, variable)", "without_all(rules, *variables)",
        "without_each(rules, variables)", "elimination_steps(rules, *variables)", "steps_of(rules, variables)",
        "extended(rules, variable, times)",
    ),
    "latestof.without.between": (
        "occurring_variables(rules)", "interpolant(first, second)", "is_interpolant(first, second, value)",
    ),
    "latestof.games.games": (
        "game_solution(rules)", "least_energies(rules)", "naming_of(rules, solution)", "is_game_solution(rules, value)",
        "walk(rules, variable, energy, moves, naming)", "outcome(rules, variable, energy, moves, naming)",
    ),
    "latestof.pace.pace": (
        "pace_certificate(rules)", "is_pace_certificate(rules, value)", "pace(rules)",
    ),
    "latestof.pace.repair": (
        "least_allowance(rules)", "is_least_allowance(rules, value)", "repair_certificate(rules, *, keep=())",
        "is_repair_certificate(rules, value, *, keep=())", "repairs(rules, *, keep=())",
    ),
    "latestof.terms.expressions": (
        "is_expression(size, value)", "value_of(times, expression)", "numbered(events, expression)",
        "format_expression(expression)", "parse_expression(text)",
    ),
    "latestof.terms.forms": (
        "form_of(size, expression)", "is_at_most(size, first, second)", "exceeding_times(size, first, second)",
        "rules_of(size, first, second)",
    ),
    "latestof.text.formats": ("format_rules(rules)", "parse_rules(text)"),
    "latestof.text.packed": ("pack(rules)", "unpack(data)"),
}
CLASSES = {
    "latestof.errors": (
        "TimingError", "InvalidRules", "InvalidTimes", "InvalidBounds", "InvalidExpression", "InvalidClause",
        "InvalidPlan", "ParseError", "UnknownVariable", "UnknownEvent", "InvalidNumber", "TooLarge", "Refuted",
        "NothingToUndo",
    ),
    "latestof.plans.clauses": (
        "Clause", "AtLeast", "AtMost", "Between", "SomeOf", "AllOf", "Together", "Compare",
    ),
    "latestof.plans.plans": ("Plan",),
    "latestof.store.store": ("Store",),
}
# What is defined in a class itself. Behind a name without brackets stands what it is, or its value.
MEMBERS = {
    "latestof.plans.clauses.Clause": (
        "LIMIT 59", "events property", "rules_for(self, names)", "holds(self, times)", "renamed(self, names)",
        "__str__(self)", "__eq__(self, other)", "read staticmethod (text)",
    ),
    "latestof.plans.clauses.AtLeast": ("__init__(self, first, second, *, least=0)",),
    "latestof.plans.clauses.AtMost": ("__init__(self, first, second, *, most=0)",),
    "latestof.plans.clauses.Between": ("__init__(self, first, second, *, least=0, most=0)",),
    "latestof.plans.clauses.SomeOf": ("__init__(self, event, *options)", "over classmethod (event, options)"),
    "latestof.plans.clauses.AllOf": ("__init__(self, event, *options)",),
    "latestof.plans.clauses.Together": (
        "__init__(self, *events, apart=0)", "over classmethod (events, *, apart=0)",
    ),
    "latestof.plans.clauses.Compare": ("__init__(self, left, right)",),
    "latestof.plans.plans.Plan": (
        "__init__(self, *events)", "over classmethod (events)", "EVENTS 8", "RULES 24", "events property", "rules property",
        "horizon setter", "with_horizon(self, value)", "include(self, clause)", "clauses(self)", "owner(self, index)",
        "part(self, numbers)", "is_possible(self)", "times(self)", "latest(self, bounds=None, **more)",
        "reason_for(self, event, bounds=None, **more)", "core(self)", "repair(self, *, keep=())", "support(self, clause)",
        "follows(self, clause)", "gap(self, first, second)", "__len__(self)", "__eq__(self, other)", "__str__(self)",
        "read classmethod (text)",
    ),
    "latestof.store.store.Store": (
        "__init__(self, plan)", "__len__(self)", "__str__(self)", "__eq__(self, other)", "assume(self, clause)",
        "withdraw(self, number)", "attempt(self, *clauses)", "attempt_all(self, clauses)", "undo(self, *, count=1)",
        "log(self)", "during(self, clauses, call)", "report(self)", "computed property", "present property", "plan(self)",
        "reason_for(self, event, bounds=None)",
    ),
}
GENERATORS = {"solutions_between", "all_cores", "bound_chain", "elimination_steps", "steps_of", "walk", "repairs"}
GENERATOR_METHODS = {"clauses"}
CONSTANTS = {
    "latestof.rules.rules": {"MAX_VARIABLES": 8, "MAX_RULES": 24, "MAX_DELAY": 60},
    "latestof.rules.times": {"MAX_BOUND": 200, "MAX_LISTED": 20000},
    "latestof.latest.latest": {"MAX_BOUND": 200},
    "latestof.games.games": {"MAX_ENERGY": 1000},
    "latestof.pace.pace": {"MAX_PACE_DELAY": 12},
    "latestof.terms.expressions": {"MAX_PARTS": 6, "MAX_DEPTH": 6, "MAX_NODES": 60},
    "latestof.terms.forms": {"MAX_MAXIMA": 60},
}


class Interface(unittest.TestCase):
    def test_functions_are_defined_in_their_files(self):
        for place, listed in FUNCTIONS.items():
            module = import_module(place)
            for text in listed:
                with self.subTest(text, place=place):
                    name, arguments = text.split("(", 1)
                    function = getattr(module, name)
                    self.assertTrue(inspect.isfunction(function))
                    self.assertEqual(function.__module__, place)
                    self.assertEqual(str(inspect.signature(function)), "(" + arguments)
                    self.assertEqual(inspect.isgeneratorfunction(function), name in GENERATORS)

    def test_classes_are_defined_in_their_files(self):
        for place, listed in CLASSES.items():
            for name in listed:
                with self.subTest(name, place=place):
                    self.assertEqual(getattr(import_module(place), name).__module__, place)

    def test_members_are_defined_in_their_classes(self):
        for place, listed in MEMBERS.items():
            module, name = place.rsplit(".", 1)
            built = getattr(import_module(module), name)
            for text in listed:
                with self.subTest(text, place=place):
                    self.check_member(built, text)

    def check_member(self, built, text):
        if " " not in text.split("(")[0]:
            name, arguments = text.split("(", 1)
            function = vars(built)[name]
            self.assertTrue(inspect.isfunction(function))
            self.assertEqual(str(inspect.signature(function)), "(" + arguments)
            self.assertEqual(inspect.isgeneratorfunction(function), name in GENERATOR_METHODS)
            return
        name, kind, *arguments = text.split(" ", 2)
        found = vars(built)[name]
        if kind in ("property", "setter"):
            self.assertIsInstance(found, property)
            self.assertEqual(found.fset is not None, kind == "setter")
        elif kind in ("staticmethod", "classmethod"):
            self.assertEqual(type(found).__name__, kind)
            self.assertEqual(str(inspect.signature(getattr(built, name))), arguments[0])
        else:
            self.assertEqual((type(found), found), (int, int(kind)))

    def test_constants(self):
        for place, listed in CONSTANTS.items():
            for name, wanted in listed.items():
                found = getattr(import_module(place), name)
                self.assertEqual((type(found), found), (int, wanted), (place, name))

    def test_arguments_may_be_passed_by_name(self):
        times = import_module("latestof.rules.times")
        self.assertEqual(times.right_side(rules=R, index=0, times=(3, 0, 0)), 2)
        self.assertEqual(times.shifted(times=(1,), by=2), (3,))


if __name__ == "__main__":
    unittest.main()
