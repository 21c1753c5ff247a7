"""Tests that the names and the arguments of the document's interface exist where it lists them."""

import inspect
import unittest
from importlib import import_module

from tests.support import R

FUNCTIONS = {
    "latestof.rules.rules": (
        "is_rule(size, value)", "is_rule_set(value)", "make_rules(size, *rules)", "rules_from(size, rules)",
        "merged(first, *others)", "merged_all(parts)", "negation(size, rule)", "simplified(rules)",
        "with_delay(rules, amount)",
    ),
    "latestof.rules.times": (
        "is_times(size, value)", "is_solution(rules, value)", "right_side(rules, index, times)",
        "broken_rules(rules, times)", "shifted(times, by)", "greatest_of(first, *others)", "greatest_of_all(rows)",
        "solutions_between(rules, low, high)",
    ),
    "latestof.solve.solver": (
        "solve(rules)", "is_refutation(rules, value)", "is_verdict(rules, value)", "split(rules)",
        "is_split(rules, value)", "excluded(rules)",
    ),
    "latestof.solve.cores": (
        "core_certificate(rules)", "is_core_certificate(rules, value)", "all_cores(rules)",
    ),
    "latestof.follow.follows": (
        "follow_certificate(rules, rule)", "follows(rules, rule)", "is_follow_certificate(rules, rule, value)",
        "difference(first, second)", "reduced(rules)", "reduction_certificate(rules)",
        "is_reduction_certificate(rules, value)",
    ),
    "latestof.latest.latest": (
        "latest(rules, bounds)", "latest_times(rules, bounds)", "is_latest(rules, bounds, value)",
        "bound_chain(rules, bounds, variable)",
    ),
    "latestof.latest.gaps": (
        "gap_certificate(rules, variable, other)", "is_gap_certificate(rules, variable, other, value)",
        "greatest_gap(rules, variable, other)",
    ),
    "latestof.without.elimination": (
        "without(rules, variable)", "sources(rules, variable)", "without_all(rules, *variables)",
        "without_each(rules, variables)", "elimination_steps(rules, *variables)", "steps_of(rules, variables)",
        "extended(rules, variable, times)",
    ),
    "latestof.without.between": (
        "occurring_variables(rules)", "interpolant(first, second)", "is_interpolant(first, second, value)",
    ),
    "latestof.games.games": (
        "game_solution(rules)", "least_energies(rules)", "naming_of(rules, solution)", "is_game_solution(rules, value)",
        "walk(rules, variable, energy, moves, naming)", "outcome(rules, variable, energy, moves, naming)",
    ),
    "latestof.pace.pace": (
        "pace_certificate(rules)", "is_pace_certificate(rules, value)", "pace(rules)",
    ),
}
CLASSES = {
    "latestof.errors": (
        "TimingError", "InvalidRules", "InvalidTimes", "InvalidBounds", "InvalidExpression", "InvalidClause",
        "InvalidPlan", "ParseError", "UnknownVariable", "UnknownEvent", "InvalidNumber", "TooLarge", "Refuted",
        "NothingToUndo",
    ),
}
GENERATORS = {"solutions_between", "all_cores", "bound_chain", "elimination_steps", "steps_of", "walk"}
CONSTANTS = {
    "latestof.rules.rules": {"MAX_VARIABLES": 8, "MAX_RULES": 24, "MAX_DELAY": 60},
    "latestof.rules.times": {"MAX_BOUND": 200, "MAX_LISTED": 20000},
    "latestof.latest.latest": {"MAX_BOUND": 200},
    "latestof.games.games": {"MAX_ENERGY": 1000},
    "latestof.pace.pace": {"MAX_PACE_DELAY": 12},
}


class Interface(unittest.TestCase):
    def test_functions_are_defined_in_their_files(self):
        for place, listed in FUNCTIONS.items():
            module = import_module(place)
            for text in listed:
                with self.subTest(text, place=place):
                    name, arguments = text.split("(")
                    function = getattr(module, name)
                    self.assertTrue(inspect.isfunction(function))
                    self.assertEqual(function.__module__, place)
                    self.assertEqual(str(inspect.signature(function)), "(" + arguments)
                    self.assertEqual(inspect.isgeneratorfunction(function), name in GENERATORS)

    def test_classes_are_defined_in_their_files(self):
        for place, listed in CLASSES.items():
            for name in listed:
                with self.subTest(name, place=place):
                    self.assertEqual(getattr(import_module(place), name).__module__, place)

    def test_constants(self):
        for place, listed in CONSTANTS.items():
            for name, wanted in listed.items():
                found = getattr(import_module(place), name)
                self.assertEqual((type(found), found), (int, wanted), (place, name))

    def test_arguments_may_be_passed_by_name(self):
        times = import_module("latestof.rules.times")
        self.assertEqual(times.right_side(rules=R, index=0, times=(3, 0, 0)), 2)
        self.assertEqual(times.shifted(times=(1,), by=2), (3,))


if __name__ == "__main__":
    unittest.main()
