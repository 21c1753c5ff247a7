"""Makes rules from others. They may be loose; nothing is checked."""


def in_order(terms):
    """Return the terms ascending, of several with the same variable the one with the greatest delay."""
    greatest = {}
    for variable, delay in terms:
        greatest[variable] = max(delay, greatest.get(variable, delay))
    return tuple([(variable, greatest[variable]) for variable in sorted(greatest)])


def delayed(rules, factor, amount):
    """Return the rule set whose delays are multiplied by the factor, with the amount added to them."""
    size, listed = rules
    return size, tuple([(left, delayed_terms(terms, factor, amount)) for left, terms in listed])


def delayed_terms(terms, factor, amount):
    """Return the terms with their delays multiplied by the factor, and the amount added to them."""
    return tuple([(variable, factor * delay + amount) for variable, delay in terms])


def negated(rule):
    """Return the rules that hold together exactly for the times for which the rule does not hold."""
    left, terms = rule
    return tuple([(variable, ((left, -delay - 1),)) for variable, delay in terms])


def simplified_rule(rule):
    """Return the rule without its own term, or None if that term makes it hold always."""
    left, terms = rule
    if any([variable == left and delay >= 0 for variable, delay in terms]):
        return None
    return left, tuple([term for term in terms if term[0] != left])


def simplified_rules(rules):
    """Return the rule set without rules that always hold, and without own terms that never help."""
    size, listed = rules
    simpler = [simplified_rule(rule) for rule in listed]
    return size, tuple([rule for rule in simpler if rule is not None])


def chosen_rules(rules, indices):
    """Return the rule set that has only the rules with these indices, in their order."""
    size, listed = rules
    return size, tuple([listed[index] for index in indices])


def against(rules, rule):
    """Return the rule set with the rules of the negation of the rule behind its own.

    It has a solution exactly if the rule does not follow from the rules.
    """
    size, listed = rules
    return size, listed + negated(rule)
