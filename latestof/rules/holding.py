"""Which rules hold for times. The rules may be loose; nothing is checked."""


def greatest_sum(terms, times):
    """Return the greatest sum of time and delay over the terms whose variable has a time, or None."""
    sums = [times[variable] + delay for variable, delay in terms if times[variable] is not None]
    return max(sums, default=None)


def holds(rule, times):
    """Return whether the rule holds for times, in which entries may be None.

    A rule whose left has no time holds, and a term whose variable has none does not help.
    """
    left, terms = rule
    if times[left] is None:
        return True
    right = greatest_sum(terms, times)
    return right is not None and times[left] <= right


def fulfils(rules, times):
    """Return whether all rules of a rule set hold for times, in which entries may be None."""
    for rule in rules[1]:
        if not holds(rule, times):
            return False
    return True
