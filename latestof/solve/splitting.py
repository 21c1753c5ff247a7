"""Splits of rule sets: who has a time, and why the others have none. The rules may be loose; they are not checked."""

from latestof.checks import is_partial, is_tuple_of
from latestof.rules.holding import fulfils
from latestof.rules.loose import chosen_rules
from latestof.solve.refutations import refutation_from, refutes, variables_of
from latestof.solve.settling import settled


def split_of(rules):
    """Return a partial solution, and a refutation with the variables that have None in it, or None."""
    times, choices = settled(rules, (0,) * rules[0])
    return times, refutation_of_rest(rules, times, choices)


def refutation_among(rules, indices):
    """Return a refutation of the rules that has only these indices, which ascend, or None if there is no such one."""
    refutation = split_of(chosen_rules(rules, indices))[1]
    if refutation is None:
        return None
    return tuple([(variable, indices[place], number) for variable, place, number in refutation])


def refutation_of_rest(rules, times, choices):
    """Return the refutation with the variables that have None in settled times, or None if there is no such one."""
    missing = without_time(times)
    if not missing:
        return None
    return refutation_from(rules, choices, missing)


def splits(rules, value):
    """Return whether the value is a partial solution and a refutation that fits it, or None if it is a solution."""
    if not is_tuple_of(value, 2) or not is_partial(value[0], rules[0]) or not fulfils(rules, value[0]):
        return False
    partial, refutation = value
    missing = without_time(partial)
    if not missing:
        return refutation is None
    return refutes(rules, refutation) and variables_of(refutation) == missing


def without_time(partial):
    """Return the variables that have None, ascending."""
    return [variable for variable, entry in enumerate(partial) if entry is None]
