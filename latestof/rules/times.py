"""Times: for which of them rules hold, and how they are made from others."""

from latestof.checks import is_index, is_integer, is_tuple_of, is_within
from latestof.errors import InvalidNumber, InvalidTimes, TooLarge
from latestof.rules.holding import fulfils, greatest_sum, holds
from latestof.rules.loose import simplified_rules
from latestof.rules.rules import check_rules, check_size, is_size
from latestof.solve.settling import settled

MAX_BOUND = 200
MAX_LISTED = 20000


def is_times(size, value):
    """Return whether the value is times of the size."""
    check_size(size)
    return is_tuple_of(value, size) and all([is_integer(entry) for entry in value])


def is_solution(rules, value):
    """Return whether the value is times for which all rules hold."""
    check_rules(rules)
    return is_times(rules[0], value) and fulfils(rules, value)


def check_times(size, times):
    """Raise InvalidTimes if the value is not times of the size."""
    if not is_times(size, times):
        raise InvalidTimes("these are not times of the size")


def is_times_of_any_size(value):
    """Return whether the value is times of a size from 1 to 8."""
    return isinstance(value, tuple) and is_size(len(value)) and is_times(len(value), value)


def right_side(rules, index, times):
    """Return the right side of the rule with this index for the times, or None if it has no terms."""
    check_rules(rules)
    size, listed = rules
    if not is_index(index, len(listed)):
        raise InvalidNumber(index)
    check_times(size, times)
    return greatest_sum(listed[index][1], times)


def broken_rules(rules, times):
    """Return the indices of the rules that do not hold for the times, ascending."""
    check_rules(rules)
    size, listed = rules
    check_times(size, times)
    return tuple([index for index, rule in enumerate(listed) if not holds(rule, times)])


def shifted(times, by):
    """Return the times with the same integer added to each of them."""
    if not is_times_of_any_size(times):
        raise InvalidTimes("these are not times of a size from 1 to 8")
    if not is_integer(by):
        raise InvalidNumber(by)
    return tuple([entry + by for entry in times])


def greatest_of(first, *others):
    """Return, for each variable, the greatest of its times in all arguments."""
    return greatest_of_all((first, *others))


def greatest_of_all(rows):
    """Return, for each variable, the greatest of its times in all rows of a tuple."""
    if not isinstance(rows, tuple) or not rows or not is_times_of_any_size(rows[0]):
        raise InvalidTimes("these are not one or more times")
    size = len(rows[0])
    if not all([is_times(size, row) for row in rows]):
        raise InvalidTimes("these are not times of the same size")
    return tuple([max([row[variable] for row in rows]) for variable in range(size)])


def solutions_between(rules, low, high):
    """Yield all solutions whose times are all from low to high, ascending."""
    check_rules(rules)
    for bound in (low, high):
        if not is_within(bound, -MAX_BOUND, MAX_BOUND):
            raise InvalidNumber(bound)
    size = rules[0]
    if low <= high and _power(high - low + 1, size) > MAX_LISTED:
        raise TooLarge(MAX_LISTED)
    # No solution within the bounds is later than the latest one. So often there is nothing to try.
    caps = settled(rules, (high,) * size)[0]
    if None not in caps and low <= min(caps):
        begun = ()
        simpler = simplified_rules(rules)[1]
        limits = [_limits_of(simpler, variable) for variable in range(size)]
        yield from _solutions_from(begun, low, caps, limits)


def _power(base, exponent):
    product = 1
    for _ in range(exponent):
        product = product * base
    return product


def _limits_of(listed, variable):
    """Return what limits the variable: the terms of its rules, and (left, delay, other terms) for each term of it."""
    above = [terms for left, terms in listed if left == variable]
    below = [(left, delay, [term for term in terms if term[0] != variable])
             for left, terms in listed for other, delay in terms if other == variable]
    return above, below


def _solutions_from(begun, low, caps, limits):
    """Yield all solutions that begin with these times, ascending. All times are at least low and at most the caps."""
    first, last = _span(begun, low, caps, limits[len(begun)])
    for time in range(first, last + 1):
        longer = (*begun, time)
        if len(longer) == len(caps):
            yield longer
        else:
            yield from _solutions_from(longer, low, caps, limits)


def _span(begun, low, caps, limits):
    """Return the first and the last time of the next variable with which each rule of it can still hold.

    The variables behind it are given the best times that they can have. For the last one nothing is left to chance.
    """
    place = len(begun)
    above, below = limits
    best = (*begun, *caps[place:])
    last = min([greatest_sum(terms, best) for terms in above], default=caps[place])
    first = low
    for left, delay, others in below:
        least = begun[left] if left < place else low
        right = greatest_sum(others, best)
        if right is None or right < least:
            first = max(first, least - delay)
    return first, min(last, caps[place])
