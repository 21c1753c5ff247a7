"""Decides rule sets: solutions, refutations, and which variables can have a time at all."""

from latestof.checks import is_titled
from latestof.rules.rules import check_rules
from latestof.rules.times import is_solution
from latestof.solve.refutations import refutes
from latestof.solve.splitting import split_of, splits, without_time


def solve(rules):
    """Return ("times", solution) or ("refuted", refutation)."""
    partial, refutation = split(rules)
    if refutation is None:
        return "times", partial
    return "refuted", refutation


def is_refutation(rules, value):
    """Return whether the value is a refutation of the rules."""
    check_rules(rules)
    return refutes(rules, value)


def is_verdict(rules, value):
    """Return whether the value is ("times", solution) or ("refuted", refutation)."""
    check_rules(rules)
    if is_titled(value, "times", 2):
        return is_solution(rules, value[1])
    return is_titled(value, "refuted", 2) and refutes(rules, value[1])


def split(rules):
    """Return a partial solution, and a refutation with the variables that have None in it, or None."""
    check_rules(rules)
    return split_of(rules)


def is_split(rules, value):
    """Return whether the value is a partial solution and a refutation that fits it, or None if it is a solution."""
    check_rules(rules)
    return splits(rules, value)


def excluded(rules):
    """Return the variables that have a time in no partial solution, ascending."""
    return tuple(without_time(split(rules)[0]))
