"""The pace of rules: the least fraction that must be added to all delays for them to have fractions as a solution."""

from math import gcd

from latestof.checks import is_index, is_integer, is_titled, is_tuple_of
from latestof.errors import TooLarge
from latestof.rules.holding import fulfils
from latestof.rules.loose import delayed
from latestof.rules.rules import check_rules
from latestof.rules.times import is_times
from latestof.rules.ways import raise_by
from latestof.solve.refutations import is_numbering, numbering_from
from latestof.solve.settling import settled
from latestof.solve.splitting import without_time

MAX_PACE_DELAY = 12

# Each integer from 1 to 8 divides it, and so it is a denominator for every mean of at most eight integers.
COMMON = 840


def _check(rules):
    """Raise InvalidRules if the value is not a rule set, TooLarge if a delay is beyond the limits of this file."""
    check_rules(rules)
    delays = [delay for _, terms in rules[1] for _, delay in terms]
    if not all([-MAX_PACE_DELAY <= delay < MAX_PACE_DELAY for delay in delays]):
        raise TooLarge(MAX_PACE_DELAY)


def pace_certificate(rules):
    """Return ("never", index), ("free", order) or ("pace", (p, q), times, low)."""
    _check(rules)
    empty = [index for index, rule in enumerate(rules[1]) if not rule[1]]
    if empty:
        return "never", empty[0]
    order, choices = _order_and_rest(rules)
    if not choices:
        return "free", order
    return _slowest(rules, choices)


def _order_and_rest(rules):
    """Return the variables whose rules can hold by terms of earlier ones, in order, and a rule for each other one.

    The rules for the other variables have no terms of the variables in order.
    """
    size, listed = rules
    order = []
    choices = {}
    rest = None
    while rest != choices:
        rest = choices
        choices = {left: index for index, (left, terms) in enumerate(listed) if not _has_one_of(terms, order)}
        order.extend([k for k in range(size) if k not in choices and k not in order])
    return tuple(order), choices


def _has_one_of(terms, variables):
    return any([variable in variables for variable, _ in terms])


def _slowest(rules, choices):
    """Return the certificate of the pace. The terms of the chosen rules must have no other variables.

    The rules do not go at less than the pace of the chosen rules. If all rules go at it, it is the pace. Otherwise
    some rules refute it, and these have a greater pace.
    """
    while True:
        p, q = _pace_of(rules[1], choices)
        times, refuting = settled(delayed(rules, q, p), (0,) * rules[0])
        missing = without_time(times)
        if not missing:
            return "pace", (p, q), times, numbering_from(rules, choices, sorted(choices), q, p)
        choices = {variable: refuting[variable] for variable in missing}


def _pace_of(listed, choices):
    """Return the least fraction at which the chosen rules go: minus the greatest mean of the delays on circular ways.

    It comes from the greatest sums of the delays on ways of one step, of two steps and so on.
    """
    sums = {variable: {variable: 0} for variable in choices}
    means = []
    for steps in range(1, len(choices) + 1):
        sums = {variable: _one_step_longer(listed[choices[variable]][1], sums) for variable in choices}
        circular = [sums[variable][variable] for variable in choices if variable in sums[variable]]
        means.extend([total * (COMMON // steps) for total in circular])
    slowest = -max(means)
    divisor = gcd(slowest, COMMON)
    return slowest // divisor, COMMON // divisor


def _one_step_longer(terms, sums):
    """Return the greatest sums on the ways that begin with one of the terms."""
    found = {}
    for variable, delay in terms:
        raise_by(found, sums[variable], delay)
    return found


def is_pace_certificate(rules, value):
    """Return whether the value is one of the three certificates."""
    _check(rules)
    size, listed = rules
    if is_titled(value, "never", 2):
        return is_index(value[1], len(listed)) and not listed[value[1]][1]
    if is_titled(value, "free", 2):
        return _is_order(size, value[1]) and all([_holds_in(rule, value[1]) for rule in listed])
    return is_titled(value, "pace", 4) and _is_pace(rules, value)


def _is_order(size, value):
    """Return whether the value is a tuple that contains each variable exactly once."""
    if not is_tuple_of(value, size) or not all([is_index(entry, size) for entry in value]):
        return False
    return sorted(value) == list(range(size))


def _holds_in(rule, order):
    """Return whether a variable of a term of the rule stands earlier in the order than its left."""
    left, terms = rule
    return _has_one_of(terms, order[:order.index(left)])


def _is_pace(rules, value):
    """Return whether the three parts behind the word fit together."""
    _, fraction, times, low = value
    if not _is_fraction(fraction) or not is_times(rules[0], times):
        return False
    p, q = fraction
    return fulfils(delayed(rules, q, p), times) and is_numbering(rules, low, q, p)


def _is_fraction(value):
    """Return whether the value is a pair of integers in lowest terms, the second one at least 1."""
    if not is_tuple_of(value, 2) or not is_integer(value[0]) or not is_integer(value[1]):
        return False
    return value[1] >= 1 and gcd(value[0], value[1]) == 1


def pace(rules):
    """Return the pace, or the word "free" or "never"."""
    certificate = pace_certificate(rules)
    return certificate[1] if certificate[0] == "pace" else certificate[0]
