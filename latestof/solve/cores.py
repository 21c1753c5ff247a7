"""Cores: rules that have no solution together, but have one as soon as any one of them is left out."""

from latestof.checks import are_ascending_indices, is_tuple_of
from latestof.rules.holding import fulfils
from latestof.rules.loose import chosen_rules
from latestof.rules.rules import check_rules
from latestof.rules.times import is_times
from latestof.rules.ways import with_choice
from latestof.solve.refutations import indices_of, refutes
from latestof.solve.splitting import refutation_among, split_of


def core_certificate(rules):
    """Return (core, refutation, solutions), or None if the rule set is feasible."""
    check_rules(rules)
    refutation = split_of(rules)[1]
    if refutation is None:
        return None
    solutions = core_within(rules, indices_of(refutation))
    core = tuple(solutions)
    return core, refutation_among(rules, core), tuple([solutions[index] for index in core])


def core_within(rules, indices):
    """Return a dict from the indices of a core among these, ascending, to times for the other rules of the core.

    The rules may be loose, and those with the indices have no solution.
    """
    solutions = {}
    core = indices
    for index in indices:
        rest = [other for other in core if other != index]
        times, refutation = split_of(chosen_rules(rules, rest))
        if refutation is None:
            solutions[index] = times
        else:
            core = rest
    return solutions


def is_core_certificate(rules, value):
    """Return whether the value is (core, refutation, solutions)."""
    check_rules(rules)
    if not is_tuple_of(value, 3):
        return False
    core, refutation, solutions = value
    if not are_ascending_indices(core, len(rules[1])) or not refutes(rules, refutation):
        return False
    if indices_of(refutation) != list(core) or not is_tuple_of(solutions, len(core)):
        return False
    return all([_does_without(rules, core, index, times) for index, times in zip(core, solutions)])


def _does_without(rules, core, index, times):
    """Return whether the value is times for which all rules of the core hold, except perhaps the one with the index."""
    others = [other for other in core if other != index]
    return is_times(rules[0], times) and fulfils(chosen_rules(rules, others), times)


def all_cores(rules):
    """Yield all cores, ascending."""
    check_rules(rules)
    for first in range(len(rules[1])):
        for core in sorted(_cores_from(rules[1], first)):
            yield core


def _cores_from(listed, first):
    """Return the cores of which this index is the first one."""
    start, terms = listed[first]
    if not terms:
        return [(first,)]
    ways = with_choice({}, start, terms)
    return [] if ways is None else _grown(listed, (first,), ways)


def _grown(listed, chosen, ways):
    """Return the cores that have the chosen rules, and beside them only rules behind the first one.

    As long as a variable that a way leads to has no rule, one is chosen for it. Then the rules are a core if every
    way leads back to the first rule.
    """
    start = listed[chosen[0]][0]
    missing = [variable for variable in ways[start] if variable not in ways]
    if not missing:
        leads_back = all([start in ways[variable] for variable in ways])
        return [tuple(sorted(chosen))] if leads_back else []
    found = []
    for index in range(chosen[0] + 1, len(listed)):
        left, terms = listed[index]
        if left == missing[0] and terms:
            longer = with_choice(ways, left, terms)
            if longer is not None:
                found.extend(_grown(listed, (*chosen, index), longer))
    return found
