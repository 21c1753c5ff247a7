"""Rules and rule sets: what is one, and how they are made from others."""

from latestof.checks import ascends, is_index, is_integer, is_tuple_of, is_within
from latestof.errors import InvalidNumber, InvalidRules, TooLarge, UnknownVariable
from latestof.rules.loose import delayed, in_order, negated, simplified_rules

MAX_VARIABLES = 8
MAX_RULES = 24
MAX_DELAY = 60


def is_size(value):
    """Return whether the value is the size of a rule set."""
    return is_within(value, 1, MAX_VARIABLES)


def is_delay(value):
    """Return whether the value is a delay."""
    return is_within(value, -MAX_DELAY, MAX_DELAY - 1)


def check_size(size):
    """Raise InvalidNumber if the value is not a size."""
    if not is_size(size):
        raise InvalidNumber(size)


def check_rules(rules):
    """Raise InvalidRules if the value is not a rule set."""
    if not is_rule_set(rules):
        raise InvalidRules("this is not a rule set")


def check_rule(size, rule):
    """Raise InvalidRules if the value is not a rule of the size."""
    if not is_rule(size, rule):
        raise InvalidRules("this is not a rule of the size")


def check_both(first, second):
    """Raise InvalidRules if one of the values is not a rule set, or if they have different sizes."""
    check_rules(first)
    check_rules(second)
    if first[0] != second[0]:
        raise InvalidRules("these rule sets have different sizes")


def check_variable(size, variable):
    """Raise UnknownVariable if the value is not a variable of a rule set of the size."""
    if not is_index(variable, size):
        raise UnknownVariable(variable)


def check_number_of(rules):
    """Raise TooLarge if there are more rules than a rule set may have."""
    if len(rules) > MAX_RULES:
        raise TooLarge(MAX_RULES)


def check_delays(rules):
    """Raise TooLarge if a rule has a delay that a rule set may not have."""
    if not all([_has_delays(rule) for rule in rules]):
        raise TooLarge(MAX_DELAY)


def is_rule(size, value):
    """Return whether the value is a rule of the size."""
    check_size(size)
    return is_loose_rule(size, value) and _has_delays(value)


def is_loose_rule(size, value):
    """Return whether the value is a rule of the size, except that its delays may be any integers."""
    return _is_unordered_rule(size, value) and ascends([term[0] for term in value[1]])


def is_rule_set(value):
    """Return whether the value is a rule set."""
    if not is_tuple_of(value, 2):
        return False
    size, rules = value
    if not is_size(size) or not isinstance(rules, tuple) or len(rules) > MAX_RULES:
        return False
    return all([is_rule(size, rule) for rule in rules])


def _is_unordered_rule(size, value):
    """Return whether the value is a pair of a variable and terms: any delays, in any order, perhaps with repeats."""
    if not is_tuple_of(value, 2) or not is_index(value[0], size) or not isinstance(value[1], tuple):
        return False
    return all([_is_loose_term(size, term) for term in value[1]])


def _is_loose_term(size, value):
    return is_tuple_of(value, 2) and is_index(value[0], size) and is_integer(value[1])


def _has_delays(rule):
    return all([is_delay(delay) for _, delay in rule[1]])


def make_rules(size, *rules):
    """Return the rule set with these rules, whose terms may stand in any order."""
    return rules_from(size, rules)


def rules_from(size, rules):
    """Return the rule set with the rules of a tuple, whose terms may stand in any order."""
    check_size(size)
    if not isinstance(rules, tuple):
        raise InvalidRules("this is not a tuple of rules")
    if not all([_is_unordered_rule(size, rule) and _has_delays(rule) for rule in rules]):
        raise InvalidRules("these are not pairs of a variable and terms")
    check_number_of(rules)
    return size, tuple([(left, in_order(terms)) for left, terms in rules])


def merged(first, *others):
    """Return the rule set with the rules of all arguments, in order."""
    return merged_all((first, *others))


def merged_all(parts):
    """Return the rule set with the rules of all rule sets of a tuple, in order."""
    if not isinstance(parts, tuple) or not parts or not all([is_rule_set(part) for part in parts]):
        raise InvalidRules("these are not one or more rule sets")
    size = parts[0][0]
    if not all([part[0] == size for part in parts]):
        raise InvalidRules("these rule sets have different sizes")
    rules = tuple([rule for part in parts for rule in part[1]])
    check_number_of(rules)
    return size, rules


def negation(size, rule):
    """Return the rule set whose solutions are the times for which the rule does not hold."""
    check_rule(size, rule)
    return size, negated(rule)


def simplified(rules):
    """Return the rule set without rules that always hold, and without own terms that never help."""
    check_rules(rules)
    return simplified_rules(rules)


def with_delay(rules, amount):
    """Return the rule set in which the amount is added to all delays."""
    check_rules(rules)
    if not is_integer(amount):
        raise InvalidNumber(amount)
    later = delayed(rules, 1, amount)
    check_delays(later[1])
    return later
