"""Interpolants: rules that follow from one rule set, contradict another one, and mention only variables of both."""

from latestof.checks import is_integer, is_titled, is_tuple_of
from latestof.rules.holding import fulfils
from latestof.rules.loose import against
from latestof.rules.rules import MAX_RULES, check_both, check_rules, is_loose_rule
from latestof.rules.times import is_times
from latestof.rules.ways import with_choice
from latestof.solve.cores import core_within
from latestof.solve.refutations import indices_of, refutes
from latestof.solve.splitting import split_of


def occurring_variables(rules):
    """Return the variables that occur in the rules as they are written, ascending."""
    check_rules(rules)
    return _occurring(rules)


def _occurring(rules):
    lefts = [left for left, terms in rules[1] if terms]
    others = [variable for _, terms in rules[1] for variable, _ in terms]
    return tuple(sorted(set(lefts + others)))


def interpolant(first, second):
    """Return ("middle", middle, reasons, refutation), or ("times", times) with a solution of both rule sets."""
    check_both(first, second)
    both = _joined(first, second)
    times, refutation = split_of(both)
    if refutation is None:
        return "times", times
    core = tuple(core_within(both, indices_of(refutation)))
    middle = (first[0], _middle_rules(both, core, len(first[1])))
    reasons = tuple([split_of(against(first, rule))[1] for rule in middle[1]])
    return "middle", middle, reasons, split_of(_joined(middle, second))[1]


def _joined(first, second):
    """Return the rule set with the rules of both, in order."""
    return first[0], first[1] + second[1]


def _middle_rules(both, core, border):
    """Return the rules of a middle, from a core of the rules. Those with indices below the border are the first ones.

    If the core has rules of both kinds, the rules of the second kind need some variables whose rules are of the first
    kind. Each of these is not later than the latest one at the ends of its ways along rules of the first kind. All
    variables of these rules occur in both rule sets, as every rule of such a core has terms and is needed by another.
    """
    rules = [both[1][index] for index in core if index < border]
    others = [both[1][index] for index in core if index >= border]
    if not others:
        # The first rules have no solution by themselves, and a rule without terms says so.
        return ((0, ()),)
    ways = {}
    for left, terms in rules:
        ways = with_choice(ways, left, terms)
    needed = sorted(set([variable for _, terms in others for variable, _ in terms if variable in ways]))
    return tuple([(variable, _ends(ways, variable)) for variable in needed])


def _ends(ways, variable):
    """Return terms for the ends of the ways from the variable: the variables without a rule, ascending."""
    return tuple([(end, ways[variable][end]) for end in sorted(ways[variable]) if end not in ways])


def is_interpolant(first, second, value):
    """Return whether the value is a middle of the rule sets, or ("times", times) with a solution of both."""
    check_both(first, second)
    if is_titled(value, "times", 2):
        return is_times(first[0], value[1]) and fulfils(_joined(first, second), value[1])
    return is_titled(value, "middle", 4) and _is_middle(first, second, value)


def _is_middle(first, second, value):
    """Return whether the three parts behind the word make a middle."""
    _, middle, reasons, refutation = value
    if not _is_small_loose_rule_set(first[0], middle) or not is_tuple_of(reasons, len(middle[1])):
        return False
    allowed = [variable for variable in _occurring(first) if variable in _occurring(second)]
    if not all([variable in allowed for variable in _occurring(middle)]):
        return False
    if not all([refutes(against(first, rule), reason) for rule, reason in zip(middle[1], reasons)]):
        return False
    return refutes(_joined(middle, second), refutation)


def _is_small_loose_rule_set(size, value):
    """Return whether the value is a loose rule set of the size with no more rules than a rule set may have."""
    if not is_tuple_of(value, 2) or not is_integer(value[0]) or value[0] != size or not isinstance(value[1], tuple):
        return False
    return len(value[1]) <= MAX_RULES and all([is_loose_rule(size, rule) for rule in value[1]])
