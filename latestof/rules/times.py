"""Times: for which of them rules hold, and how they are made from others."""

from latestof.checks import is_index, is_integer, is_tuple_of, is_within
from latestof.errors import InvalidNumber, InvalidTimes, TooLarge
from latestof.rules.holding import fulfils, greatest_sum, holds
from latestof.rules.rules import check_rules, check_size, is_size

MAX_BOUND = 200
MAX_LISTED = 20000


def is_times(size, value):
    """Return whether the value is times of the size."""
    check_size(size)
    return is_tuple_of(value, size) and all([is_integer(entry) for entry in value])


def is_solution(rules, value):
    """Return whether the value is times for which all rules hold."""
    check_rules(rules)
    return is_times(rules[0], value) and fulfils(rules, value)


def check_times(size, times):
    """Raise InvalidTimes if the value is not times of the size."""
    if not is_times(size, times):
        raise InvalidTimes("these are not times of the size")


def _is_times_of_any_size(value):
    return isinstance(value, tuple) and is_size(len(value)) and is_times(len(value), value)


def right_side(rules, index, times):
    """Return the right side of the rule with this index for the times, or None if it has no terms."""
    check_rules(rules)
    size, listed = rules
    if not is_index(index, len(listed)):
        raise InvalidNumber(index)
    check_times(size, times)
    return greatest_sum(listed[index][1], times)


def broken_rules(rules, times):
    """Return the indices of the rules that do not hold for the times, ascending."""
    check_rules(rules)
    size, listed = rules
    check_times(size, times)
    return tuple([index for index, rule in enumerate(listed) if not holds(rule, times)])


def shifted(times, by):
    """Return the times with the same integer added to each of them."""
    if not _is_times_of_any_size(times):
        raise InvalidTimes("these are not times of a size from 1 to 8")
    if not is_integer(by):
        raise InvalidNumber(by)
    return tuple([entry + by for entry in times])


def greatest_of(first, *others):
    """Return, for each variable, the greatest of its times in all arguments."""
    return greatest_of_all((first, *others))


def greatest_of_all(rows):
    """Return, for each variable, the greatest of its times in all rows of a tuple."""
    if not isinstance(rows, tuple) or not rows or not _is_times_of_any_size(rows[0]):
        raise InvalidTimes("these are not one or more times")
    size = len(rows[0])
    if not all([is_times(size, row) for row in rows]):
        raise InvalidTimes("these are not times of the same size")
    return tuple([max([row[variable] for row in rows]) for variable in range(size)])


def solutions_between(rules, low, high):
    """Yield all solutions whose times are all from low to high, ascending."""
    check_rules(rules)
    for bound in (low, high):
        if not is_within(bound, -MAX_BOUND, MAX_BOUND):
            raise InvalidNumber(bound)
    width = max(0, high - low + 1)
    many = _power(width, rules[0])
    if many > MAX_LISTED:
        raise TooLarge(MAX_LISTED)
    for place in range(many):
        times = _times_at(place, rules[0], low, width)
        if fulfils(rules, times):
            yield times


def _power(base, exponent):
    product = 1
    for _ in range(exponent):
        product = product * base
    return product


def _times_at(place, size, low, width):
    """Return the times at this place among all those from low on, ascending, with as many values as width."""
    digits = []
    for _ in range(size):
        place, digit = divmod(place, width)
        digits.append(low + digit)
    return tuple(reversed(digits))
