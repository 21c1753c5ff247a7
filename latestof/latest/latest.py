"""Latest times within bounds, and the rules that bind them."""

from latestof.checks import is_index, is_integer, is_tuple_of, is_within
from latestof.errors import InvalidBounds, Refuted
from latestof.rules.holding import greatest_sum
from latestof.rules.rules import check_rules, check_variable
from latestof.solve.settling import settled
from latestof.solve.splitting import refutation_of_rest, splits

MAX_BOUND = 200


def _check_bounds(size, bounds):
    """Raise InvalidBounds if the value is not bounds of the size."""
    if not is_tuple_of(bounds, size) or not all([is_within(entry, -MAX_BOUND, MAX_BOUND) for entry in bounds]):
        raise InvalidBounds("these are not bounds of the size")


def latest(rules, bounds):
    """Return (times, reasons, refutation) with the latest times within the bounds."""
    check_rules(rules)
    _check_bounds(rules[0], bounds)
    return latest_within(rules, bounds)


def latest_within(rules, bounds):
    """Return (times, reasons, refutation). Neither the rules nor the bounds are checked."""
    times, choices = settled(rules, bounds)
    return times, _reasons(rules[1], times, choices), refutation_of_rest(rules, times, choices)


def _reasons(listed, times, choices):
    """Return, for each variable, None or the index of the rule that is chosen for it, with a rank.

    Every circular way of chosen rules has a negative sum, and so the tight terms lead to a bound at last.
    """
    reasons = [None] * len(times)
    waiting = [k for k, index in enumerate(choices) if index is not None and times[k] is not None]
    rank = 1
    while waiting:
        blocked = [k for k in waiting if _leads_to(listed[choices[k]], times, waiting)]
        for k in waiting:
            if k not in blocked:
                reasons[k] = (choices[k], rank)
        waiting = blocked
        rank += 1
    return tuple(reasons)


def _leads_to(rule, times, variables):
    """Return whether the rule, which binds its left, has a tight term with one of these variables."""
    return any([variable in variables for variable in _tight_variables(rule, times)])


def _tight_variables(rule, times):
    """Return the variables of the terms of the rule whose value is the time of its left."""
    left, terms = rule
    possible = [(variable, times[variable] + delay) for variable, delay in terms if times[variable] is not None]
    return [variable for variable, total in possible if total == times[left]]


def latest_times(rules, bounds):
    """Return the latest times within the bounds."""
    return latest(rules, bounds)[0]


def is_latest(rules, bounds, value):
    """Return whether the value is (times, reasons, refutation) with the latest times within the bounds."""
    check_rules(rules)
    _check_bounds(rules[0], bounds)
    return is_latest_within(rules, bounds, value)


def is_latest_within(rules, bounds, value):
    """Return whether the value is (times, reasons, refutation). Neither the rules nor the bounds are checked."""
    if not is_tuple_of(value, 3):
        return False
    times, reasons, refutation = value
    if not splits(rules, (times, refutation)) or not _are_below(times, bounds):
        return False
    if not is_tuple_of(reasons, rules[0]) or not all([_is_entry(rules[1], entry) for entry in reasons]):
        return False
    return all([_explains(rules[1], bounds, times, reasons, variable) for variable in range(rules[0])])


def _are_below(times, bounds):
    return all([entry is None or entry <= bound for entry, bound in zip(times, bounds)])


def _is_entry(listed, value):
    """Return whether the value is None or a pair of an index of a rule and a rank."""
    if value is None:
        return True
    return is_tuple_of(value, 2) and is_index(value[0], len(listed)) and is_integer(value[1]) and value[1] >= 1


def _explains(listed, bounds, times, reasons, variable):
    """Return whether the entry among the reasons is allowed for the variable."""
    entry, time = reasons[variable], times[variable]
    if entry is None:
        return time is None or time == bounds[variable]
    index, rank = entry
    rule = listed[index]
    if time is None or rule[0] != variable or greatest_sum(rule[1], times) != time:
        return False
    before = [reasons[other] for other in _tight_variables(rule, times)]
    return all([reason is None or reason[1] < rank for reason in before])


def bound_chain(rules, bounds, variable):
    """Yield pairs of a variable and the index of the rule that binds it, up to a variable at its bound and None."""
    check_rules(rules)
    _check_bounds(rules[0], bounds)
    check_variable(rules[0], variable)
    times, reasons, refutation = latest_within(rules, bounds)
    if times[variable] is None:
        raise Refuted(refutation)
    while reasons[variable] is not None:
        index = reasons[variable][0]
        yield variable, index
        variable = _tight_variables(rules[1][index], times)[0]
    yield variable, None
