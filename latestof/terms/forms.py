"""Forms: every expression as the least of greatest sums, which tells when it is at most another one."""

from latestof.errors import InvalidExpression, TooLarge
from latestof.rules.loose import delayed_terms, in_order
from latestof.rules.rules import check_delays, check_number_of
from latestof.terms.expressions import check_expression, parts_of

MAX_MAXIMA = 60


def form_of(size, expression):
    """Return the form of the expression."""
    check_expression(size, expression)
    return _form(expression)


def _form(expression):
    if not isinstance(expression, tuple):
        return (((expression, 0),),)
    forms = [_form(part) for part in parts_of(expression)]
    if expression[0] == "plus":
        return tuple([delayed_terms(maximum, 1, expression[2]) for maximum in forms[0]])
    found = forms[0]
    for further in forms[1:]:
        found = _least_ones(_joined(found, further) if expression[0] == "max" else found + further)
    return found


def _joined(first, second):
    """Return, for each maximum of the one and each of the other, the pairs of both."""
    return [in_order(one + other) for one in first for other in second]


def _least_ones(maxima):
    """Return the form with those of the maxima that no other one is below.

    One that is below another one has fewer variables, or the same ones and a smaller sum of numbers. So when the
    maxima are taken by these, none that was kept has to go again.
    """
    found = []
    rows = [(len(one), sum([number for _, number in one]), one) for one in sorted(set(maxima))]
    for _, _, maximum in sorted(rows):
        if not _has_one_below(found, maximum):
            found.append(maximum)
            if len(found) > MAX_MAXIMA:
                raise TooLarge(MAX_MAXIMA)
    return tuple(sorted(found))


def _has_one_below(maxima, maximum):
    """Return whether one of the maxima is equal to the maximum or below it."""
    numbers = dict(maximum)
    for one in maxima:
        if _is_below(one, numbers):
            return True
    return False


def _is_below(one, numbers):
    """Return whether the maximum is equal to the one with these numbers, a dict from its variables, or below it."""
    for variable, number in one:
        if variable not in numbers or numbers[variable] < number:
            return False
    return True


def _both_forms(size, first, second):
    """Return the forms of two expressions."""
    check_expression(size, first)
    check_expression(size, second)
    return _form(first), _form(second)


def is_at_most(size, first, second):
    """Return whether the value of the first expression is at most that of the second one for all times."""
    return exceeding_times(size, first, second) is None


def exceeding_times(size, first, second):
    """Return times for which the value of the first expression is greater, or None if there are none."""
    form, other = _both_forms(size, first, second)
    for maximum in other:
        if not _has_one_below(form, maximum):
            return _times_above(size, form, maximum)
    return None


def _times_above(size, form, maximum):
    """Return times for which the maximum has the value 0, and each maximum of the form a value of at least 1.

    No maximum of the form is below it. So each has a greater number, or a variable that it does not have.
    """
    numbers = dict(maximum)
    late = 1 - min([number for one in form for _, number in one])
    return tuple([-numbers[variable] if variable in numbers else late for variable in range(size)])


def rules_of(size, first, second):
    """Return the rule set whose solutions are the times for which the first expression is at most the second one."""
    form, other = _both_forms(size, first, second)
    if len(form) > 1:
        raise InvalidExpression("the first expression is not a single maximum")
    rules = tuple([(left, delayed_terms(maximum, 1, -number)) for maximum in other for left, number in form[0]])
    check_number_of(rules)
    check_delays(rules)
    return size, rules
