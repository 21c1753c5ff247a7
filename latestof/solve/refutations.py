"""Refutations of rule sets, loose or not: which values are one, and how chosen rules give one."""

from latestof.checks import ascends, is_index, is_integer, is_tuple_of


def refutes(rules, value):
    """Return whether the value is a refutation of the rules."""
    if not isinstance(value, tuple) or not value or not all([_is_triple(rules, entry) for entry in value]):
        return False
    if not ascends(variables_of(value)):
        return False
    numbers = {variable: number for variable, _, number in value}
    return all([_is_great_enough(rules[1][index], number, numbers) for _, index, number in value])


def variables_of(refutation):
    """Return the variables of the triples, in order."""
    return [entry[0] for entry in refutation]


def _is_triple(rules, value):
    """Return whether the value is a variable, the index of a rule of it, and a number."""
    size, listed = rules
    if not is_tuple_of(value, 3) or not is_index(value[0], size) or not is_index(value[1], len(listed)):
        return False
    return is_integer(value[2]) and listed[value[1]][0] == value[0]


def _is_great_enough(rule, number, numbers):
    """Return whether the number of the left is great enough for the numbers of the rule's terms."""
    for variable, delay in rule[1]:
        if variable not in numbers or number < _needed(numbers, variable, delay):
            return False
    return True


def _needed(numbers, variable, delay):
    return numbers[variable] + len(numbers) * delay + 1


def refutation_from(rules, choices, variables):
    """Return the refutation with triples of these variables and the rules that are chosen for them.

    The terms of these rules must have no other variables, and the delays on every circular way of them a sum of
    at most -1. Then the numbers stop rising: with m variables, m times the sum and the steps give at most 0.
    """
    listed = rules[1]
    numbers = {variable: 0 for variable in variables}
    rising = True
    while rising:
        rising = False
        for left in variables:
            for variable, delay in listed[choices[left]][1]:
                needed = _needed(numbers, variable, delay)
                if numbers[left] < needed:
                    numbers[left] = needed
                    rising = True
    return tuple([(variable, choices[variable], numbers[variable]) for variable in variables])
