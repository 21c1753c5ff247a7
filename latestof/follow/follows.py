"""What follows from rules: rules that hold for every solution, and rules that can be dropped."""

from latestof.checks import are_ascending_indices, is_titled, is_tuple_of
from latestof.rules.holding import fulfils, holds
from latestof.rules.loose import against, chosen_rules
from latestof.rules.rules import check_both, check_rule, check_rules
from latestof.rules.times import is_times
from latestof.solve.refutations import refutes
from latestof.solve.splitting import split_of


def follow_certificate(rules, rule):
    """Return ("follows", refutation) or ("breaks", times)."""
    check_rules(rules)
    check_rule(rules[0], rule)
    return _certificate(rules, rule)


def _certificate(rules, rule):
    times, refutation = split_of(against(rules, rule))
    if refutation is None:
        return "breaks", times
    return "follows", refutation


def follows(rules, rule):
    """Return whether the rule holds for every solution of the rules."""
    return follow_certificate(rules, rule)[0] == "follows"


def is_follow_certificate(rules, rule, value):
    """Return whether the value is ("follows", refutation) or ("breaks", times)."""
    check_rules(rules)
    check_rule(rules[0], rule)
    if is_titled(value, "breaks", 2):
        return _breaks(rules, rule, value[1])
    return is_titled(value, "follows", 2) and refutes(against(rules, rule), value[1])


def _breaks(rules, rule, value):
    """Return whether the value is times for which the rules hold and the rule does not."""
    return is_times(rules[0], value) and fulfils(rules, value) and not holds(rule, value)


def difference(first, second):
    """Return None if the rule sets have the same solutions, otherwise a side and times that only this side has."""
    check_both(first, second)
    for side, (rules, others) in enumerate(((first, second), (second, first))):
        for rule in others[1]:
            word, certificate = _certificate(rules, rule)
            if word == "breaks":
                return side, certificate
    return None


def reduced(rules):
    """Return the indices that are left when each rule is dropped that follows from those that are left then."""
    check_rules(rules)
    return tuple(_needed(rules))


def _needed(rules):
    """Return a dict from the indices of the rules that are left, ascending, to times that break just this one of them.

    What a rule is compared with has all rules that are left at last, and so these times do for them.
    """
    needed = {}
    left = list(range(len(rules[1])))
    for index, rule in enumerate(rules[1]):
        others = _without(left, index)
        word, certificate = _certificate(chosen_rules(rules, others), rule)
        if word == "breaks":
            needed[index] = certificate
        else:
            left = others
    return needed


def _without(indices, index):
    return [other for other in indices if other != index]


def reduction_certificate(rules):
    """Return (kept, reasons): the rules of reduced, and why each rule is kept or not."""
    check_rules(rules)
    reasons = _needed(rules)
    kept = tuple(reasons)
    chosen = chosen_rules(rules, kept)
    for index, rule in enumerate(rules[1]):
        if index not in kept:
            reasons[index] = split_of(against(chosen, rule))[1]
    return kept, tuple([reasons[index] for index in range(len(rules[1]))])


def is_reduction_certificate(rules, value):
    """Return whether the value is (kept, reasons)."""
    check_rules(rules)
    if not is_tuple_of(value, 2):
        return False
    kept, reasons = value
    if not are_ascending_indices(kept, len(rules[1])) or not is_tuple_of(reasons, len(rules[1])):
        return False
    return all([_is_reason(rules, kept, index, reason) for index, reason in enumerate(reasons)])


def _is_reason(rules, kept, index, value):
    """Return whether the value shows why the rule with the index is kept or not."""
    rule = rules[1][index]
    others = chosen_rules(rules, _without(kept, index))
    if index in kept:
        return _breaks(others, rule, value)
    return refutes(against(others, rule), value)
