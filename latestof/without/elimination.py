"""Removes variables from rule sets, so that just the solutions are left that can be extended to these variables."""

from latestof.errors import InvalidNumber, InvalidTimes
from latestof.rules.holding import fulfils, greatest_sum
from latestof.rules.loose import delayed_terms, in_order, simplified_rule, simplified_rules
from latestof.rules.rules import check_delays, check_number_of, check_rules, check_variable
from latestof.rules.times import check_times


def without(rules, variable):
    """Return the rule set without the variable."""
    check_rules(rules)
    check_variable(rules[0], variable)
    return _without(rules, variable)


def sources(rules, variable):
    """Return, for each rule of the rule set without the variable, the indices of the rules that it comes from."""
    check_rules(rules)
    check_variable(rules[0], variable)
    return tuple(_rules_with_sources(rules, variable).values())


def _without(rules, variable):
    return rules[0], tuple(_rules_with_sources(rules, variable))


def _rules_with_sources(rules, variable):
    """Return a dict from the rules of the rule set without the variable, in order, to their sources."""
    found = {}
    for rule, source in _replaced(rules, variable):
        simpler = simplified_rule(rule)
        if simpler is not None and simpler not in found:
            found[simpler] = source
    check_number_of(found)
    check_delays(found)
    return found


def _replaced(rules, variable):
    """Return the rules without the variable before they are simplified again, each with its source."""
    simpler = [(index, simplified_rule(rule)) for index, rule in enumerate(rules[1])]
    left = [(index, rule) for index, rule in simpler if rule is not None]
    own = [(index, rule[1]) for index, rule in left if rule[0] == variable]
    found = []
    for index, rule in left:
        if rule[0] != variable:
            found.extend(_replacements(index, rule, variable, own))
    for index, terms in own:
        if not terms:
            return [*found, ((variable, ()), (index, None))]
    return found


def _replacements(index, rule, variable, own):
    """Return what stands for the rule when each rule of the variable, own, takes the place of the variable's term."""
    left, terms = rule
    rest = [term for term in terms if term[0] != variable]
    if len(rest) == len(terms):
        return [(rule, (index, None))]
    delay = dict(terms)[variable]
    return [((left, in_order([*rest, *delayed_terms(further, 1, delay)])), (index, other)) for other, further in own]


def without_all(rules, *variables):
    """Return the rule set from which the variables have been removed, in the given order."""
    return without_each(rules, variables)


def without_each(rules, variables):
    """Return the rule set from which the variables of a tuple have been removed, in order."""
    _check_removals(rules, variables)
    for variable in variables:
        rules = _without(rules, variable)
    return rules


def _check_removals(rules, variables):
    check_rules(rules)
    if not isinstance(variables, tuple):
        raise InvalidNumber(variables)
    for variable in variables:
        check_variable(rules[0], variable)


def elimination_steps(rules, *variables):
    """Yield the rule set after the removal of each variable, in the given order."""
    yield from steps_of(rules, variables)


def steps_of(rules, variables):
    """Yield the rule set after the removal of each variable of a tuple, in order."""
    _check_removals(rules, variables)
    for variable in variables:
        rules = _without(rules, variable)
        yield rules


def extended(rules, variable, times):
    """Return a solution of the rules that is equal to the times, except perhaps for the variable."""
    check_rules(rules)
    check_variable(rules[0], variable)
    check_times(rules[0], times)
    found = (*times[:variable], _best_time(rules, variable, times), *times[variable + 1:])
    if not fulfils(rules, found):
        raise InvalidTimes("there is no such solution")
    return found


def _best_time(rules, variable, times):
    """Return the time of the variable with which most rules hold: the latest one that its own rules allow.

    Without rules of its own it is as late as any term needs it. If a rule of its own has no terms, no time will do.
    """
    simpler = simplified_rules(rules)[1]
    rights = [greatest_sum(terms, times) for left, terms in simpler if left == variable]
    if not rights:
        needed = [times[left] - delay for left, terms in simpler for other, delay in terms if other == variable]
        return max(needed, default=times[variable])
    allowed = [right for right in rights if right is not None]
    return min(allowed, default=times[variable])
