"""Decides rule sets: solutions, refutations, and which variables can have a time at all."""

from latestof.checks import is_integer, is_tuple_of
from latestof.rules.rules import check_rules
from latestof.rules.times import fulfils, is_solution
from latestof.solve.refutations import refutation_from, refutes, variables_of
from latestof.solve.settling import settled


def solve(rules):
    """Return ("times", solution) or ("refuted", refutation)."""
    partial, refutation = split(rules)
    if refutation is None:
        return "times", partial
    return "refuted", refutation


def is_refutation(rules, value):
    """Return whether the value is a refutation of the rules."""
    check_rules(rules)
    return refutes(rules, value)


def is_verdict(rules, value):
    """Return whether the value is ("times", solution) or ("refuted", refutation)."""
    check_rules(rules)
    if not is_tuple_of(value, 2) or not isinstance(value[0], str):
        return False
    word, certificate = value
    if word == "times":
        return is_solution(rules, certificate)
    return word == "refuted" and refutes(rules, certificate)


def split(rules):
    """Return a partial solution, and a refutation with the variables that have None in it, or None."""
    check_rules(rules)
    partial, choices = settled(rules)
    missing = _without_time(partial)
    if not missing:
        return partial, None
    return partial, refutation_from(rules, choices, missing)


def is_split(rules, value):
    """Return whether the value is a partial solution and a refutation that fits it, or None if it is a solution."""
    check_rules(rules)
    if not is_tuple_of(value, 2) or not _is_partial_solution(rules, value[0]):
        return False
    partial, refutation = value
    missing = _without_time(partial)
    if not missing:
        return refutation is None
    return refutes(rules, refutation) and variables_of(refutation) == missing


def excluded(rules):
    """Return the variables that have a time in no partial solution, ascending."""
    check_rules(rules)
    partial, _ = settled(rules)
    return tuple(_without_time(partial))


def _without_time(partial):
    return [variable for variable, entry in enumerate(partial) if entry is None]


def _is_partial_solution(rules, value):
    if not is_tuple_of(value, rules[0]) or not all([entry is None or is_integer(entry) for entry in value]):
        return False
    return fulfils(rules, value)
