"""Refutations of rule sets, loose or not: which values are one, and how chosen rules give one.

A refutation is a *numbering*: triples of a variable, the index of a rule of it, and a number, such that for each
term of the rule the number is at least that of the term's variable plus factor * delay + amount. The factor of a
refutation is its number of triples, and the amount is 1. Other certificates are numberings, too.
"""

from latestof.checks import ascends, is_index, is_integer, is_tuple_of


def refutes(rules, value):
    """Return whether the value is a refutation of the rules."""
    return isinstance(value, tuple) and is_numbering(rules, value, len(value), 1)


def is_numbering(rules, value, factor, amount):
    """Return whether the value is a numbering by the rules, with at least one triple, ascending by variable."""
    if not isinstance(value, tuple) or not value or not all([_is_triple(rules, entry) for entry in value]):
        return False
    if not ascends(variables_of(value)):
        return False
    numbers = {variable: number for variable, _, number in value}
    for _, index, number in value:
        for variable, delay in rules[1][index][1]:
            if variable not in numbers or number < numbers[variable] + factor * delay + amount:
                return False
    return True


def _is_triple(rules, value):
    """Return whether the value is a variable, the index of a rule of it, and a number."""
    size, listed = rules
    if not is_tuple_of(value, 3) or not is_index(value[0], size) or not is_index(value[1], len(listed)):
        return False
    return is_integer(value[2]) and listed[value[1]][0] == value[0]


def variables_of(numbering):
    """Return the variables of the triples, in order."""
    return [entry[0] for entry in numbering]


def indices_of(numbering):
    """Return the indices of the triples, ascending."""
    return sorted([entry[1] for entry in numbering])


def refutation_from(rules, choices, variables):
    """Return the refutation with triples of these variables and the rules that are chosen for them.

    The terms of these rules must have no other variables, and the delays on every circular way of them a sum of
    at most -1. Then m times the sum and the steps give at most 0, with m variables.
    """
    return numbering_from(rules, choices, variables, len(variables), 1)


def numbering_from(rules, choices, variables, factor, amount):
    """Return a numbering with triples of these variables and the rules that are chosen for them.

    The terms of these rules must have no other variables, and what they need on every circular way must have a sum
    of at most 0: then the numbers stop rising.
    """
    listed = rules[1]
    numbers = {variable: 0 for variable in variables}
    rising = True
    while rising:
        rising = False
        for left in variables:
            needed = [numbers[variable] + factor * delay + amount for variable, delay in listed[choices[left]][1]]
            least = max(needed, default=numbers[left])
            if numbers[left] < least:
                numbers[left] = least
                rising = True
    return tuple([(variable, choices[variable], numbers[variable]) for variable in variables])
