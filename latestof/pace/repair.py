"""Allowances, which make rules feasible when added to all delays, and repairs, which do so by dropping some rules."""

from latestof.checks import are_ascending_indices, is_integer, is_tuple_of
from latestof.errors import InvalidNumber, Refuted, TooLarge
from latestof.pace.pace import pace
from latestof.rules.holding import fulfils
from latestof.rules.loose import chosen_rules, delayed
from latestof.rules.rules import check_rules
from latestof.rules.times import is_times
from latestof.solve.refutations import indices_of, refutes
from latestof.solve.splitting import refutation_among, split_of

MAX_DROPPABLE = 12


def least_allowance(rules):
    """Return (t, times, refutation), or None if the rules go at every fraction."""
    check_rules(rules)
    for index, (left, terms) in enumerate(rules[1]):
        if not terms:
            raise Refuted(((left, index, 0),))
    slowest = pace(rules)
    if slowest == "free":
        return None
    p, q = slowest
    # The pace, rounded up.
    least = -(-p // q)
    return least, split_of(delayed(rules, 1, least))[0], split_of(delayed(rules, 1, least - 1))[1]


def is_least_allowance(rules, value):
    """Return whether the value is (t, times, refutation)."""
    check_rules(rules)
    if not is_tuple_of(value, 3) or not is_integer(value[0]) or not is_times(rules[0], value[1]):
        return False
    least, times, refutation = value
    return fulfils(delayed(rules, 1, least), times) and refutes(delayed(rules, 1, least - 1), refutation)


def _check_keep(rules, keep):
    """Raise InvalidRules if the first value is not a rule set, InvalidNumber if the other one is not indices of it."""
    check_rules(rules)
    if not are_ascending_indices(keep, len(rules[1])):
        raise InvalidNumber(keep)


def _check_feasible(rules, keep):
    """Raise Refuted if the rules with these indices are not feasible."""
    refutation = refutation_among(rules, keep)
    if refutation is not None:
        raise Refuted(refutation)


def _all_without(rules, dropped):
    """Return the indices of all rules that are not dropped, ascending."""
    return [index for index in range(len(rules[1])) if index not in dropped]


def repair_certificate(rules, *, keep=()):
    """Return (dropped, times, refutations), without rules of keep among the dropped ones."""
    _check_keep(rules, keep)
    _check_feasible(rules, keep)
    kept = keep
    refutations = {}
    for index in _all_without(rules, keep):
        more = tuple(sorted([*kept, index]))
        refutation = refutation_among(rules, more)
        if refutation is None:
            kept = more
        else:
            refutations[index] = refutation
    times = split_of(chosen_rules(rules, kept))[0]
    return tuple(refutations), times, tuple([refutations[index] for index in refutations])


def is_repair_certificate(rules, value, *, keep=()):
    """Return whether the value is (dropped, times, refutations), without rules of keep among the dropped ones."""
    _check_keep(rules, keep)
    if not is_tuple_of(value, 3) or not are_ascending_indices(value[0], len(rules[1])):
        return False
    dropped, times, refutations = value
    if any([index in keep for index in dropped]) or not is_tuple_of(refutations, len(dropped)):
        return False
    rest = _all_without(rules, dropped)
    if not is_times(rules[0], times) or not fulfils(chosen_rules(rules, rest), times):
        return False
    return all([_refutes_with(rules, rest, index, entry) for index, entry in zip(dropped, refutations)])


def _refutes_with(rules, rest, index, value):
    """Return whether the value is a refutation that has no other indices than those of the rest and this one."""
    return refutes(rules, value) and all([used == index or used in rest for used in indices_of(value)])


def repairs(rules, *, keep=()):
    """Yield all repairs that have no rule of keep, ascending."""
    _check_keep(rules, keep)
    _check_feasible(rules, keep)
    if len(rules[1]) - len(keep) > MAX_DROPPABLE:
        raise TooLarge(MAX_DROPPABLE)
    for dropped in sorted(_repairs_among(rules, _all_without(rules, keep))):
        yield dropped


def _repairs_among(rules, usable):
    """Return all repairs that have only usable rules.

    Sets of usable rules are integers here: the bit k stands for usable[k]. Each set comes behind those that it
    contains. So it is a repair if it contains none that has been found, and if the rest is feasible. A set that has no
    rule of a known conflict need not be looked at.
    """
    found = []
    conflicts = []
    for dropped in range(1 << len(usable)):
        if not _contains_one(dropped, found) and not _misses_one(dropped, conflicts):
            refutation = refutation_among(rules, _all_without(rules, _members(usable, dropped)))
            if refutation is None:
                found.append(dropped)
            else:
                conflicts.append(_bits(usable, _conflict_within(rules, usable, indices_of(refutation))))
    return [_members(usable, dropped) for dropped in found]


def _conflict_within(rules, usable, indices):
    """Return least usable rules among these indices that are not feasible with those that are not usable."""
    conflict = [index for index in indices if index in usable]
    for index in list(conflict):
        others = [other for other in conflict if other != index]
        dropped = [other for other in usable if other not in others]
        if refutation_among(rules, _all_without(rules, dropped)) is not None:
            conflict = others
    return conflict


def _members(usable, bits):
    return tuple([index for place, index in enumerate(usable) if bits & (1 << place)])


def _bits(usable, indices):
    return sum([1 << place for place, index in enumerate(usable) if index in indices])


def _contains_one(bits, others):
    """Return whether the set contains one of the others."""
    for other in others:
        if bits & other == other:
            return True
    return False


def _misses_one(bits, others):
    """Return whether the set has nothing in common with one of the others."""
    for other in others:
        if bits & other == 0:
            return True
    return False
