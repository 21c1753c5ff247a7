"""What clauses say together, and which few of them say it.

The clauses stand here as *groups*: the tuple of the rules of each clause. A *part* of them is a list or tuple of their
indices, ascending. Nothing is checked.
"""

from latestof.rules.loose import against
from latestof.solve.refutations import indices_of
from latestof.solve.settling import settled
from latestof.solve.splitting import split_of

# It holds for no times, and so it follows only from rules that are not feasible.
NEVER = (0, ())


def rules_of_all(size, groups):
    """Return the rule set with the rules of all groups, in order."""
    return size, tuple([rule for group in groups for rule in group])


def rules_of_part(size, groups, part):
    """Return the rule set with the rules of the groups of the part, in order."""
    return rules_of_all(size, [groups[number] for number in part])


def owners_of(groups, part):
    """Return, for each rule of the part, the index of its group."""
    return [number for number in part for _ in groups[number]]


def _users(groups, part, indices):
    """Return the groups of the part to which its rules with these indices belong, ascending."""
    owners = owners_of(groups, part)
    return sorted(set([owners[index] for index in indices]))


def _least(groups, claims, proof):
    """Return a least part that is enough for all claims, or None if all groups are not.

    The function proof returns what is needed of a part for a claim, or None if the part is not enough. A part that is
    enough stays so with more groups.
    """
    everything = list(range(len(groups)))
    parts = _proved(claims, [None for _ in claims], everything, proof)
    if parts is None:
        return None
    for number in _joined(parts):
        known = [None if number in part else part for part in parts]
        others = [other for other in _joined(parts) if other != number]
        fresh = _proved(claims, known, others, proof)
        parts = parts if fresh is None else fresh
    return tuple(_joined(parts))


def _proved(claims, known, part, proof):
    """Return for each claim what is known to be enough for it, or else what is needed of the part.

    Returns None if the part is not enough for one of them.
    """
    found = []
    for claim, enough in zip(claims, known):
        needed = proof(part, claim) if enough is None else enough
        if needed is None:
            return None
        found.append(needed)
    return found


def _joined(parts):
    return sorted(set([number for part in parts for number in part]))


def support_of(size, groups, wanted):
    """Return a least part from which each of the wanted rules follows, or None if one does not follow from all."""
    return _least(groups, wanted, lambda part, rule: _supporting(size, groups, part, rule))


def _supporting(size, groups, part, rule):
    """Return what is needed of the part for the rule to follow, or None if it does not."""
    rules = rules_of_part(size, groups, part)
    refutation = split_of(against(rules, rule))[1]
    if refutation is None:
        return None
    return _users(groups, part, [index for index in indices_of(refutation) if index < len(rules[1])])


def core_of(size, groups):
    """Return a least part that is not feasible, or None if all groups are feasible together."""
    return support_of(size, groups, (NEVER,))


def reason_of(size, groups, bounds, variable):
    """Return a least part that gives the variable the same latest time within the bounds, or excludes it too."""
    time = settled(rules_of_all(size, groups), bounds)[0][variable]
    return _least(groups, (time,), lambda part, claim: _limiting(size, groups, part, bounds, variable, claim))


def _limiting(size, groups, part, bounds, variable, time):
    """Return what is needed of the part for the variable to have this latest time, or None if it has a later one."""
    times, choices = settled(rules_of_part(size, groups, part), bounds)
    if times[variable] != time:
        return None
    # The chosen rules alone lead to the same times.
    return _users(groups, part, [index for index in choices if index is not None])


def is_feasible(size, groups, part):
    """Return whether the groups of the part are feasible together."""
    return split_of(rules_of_part(size, groups, part))[1] is None


def repair_of(size, groups, keep):
    """Return a least part without groups of keep whose rest is feasible, or None if keep itself is not feasible."""
    if not is_feasible(size, groups, keep):
        return None
    kept = keep
    dropped = []
    for number in range(len(groups)):
        if number not in keep and groups[number]:
            more = tuple(sorted([*kept, number]))
            if is_feasible(size, groups, more):
                kept = more
            else:
                dropped.append(number)
    return tuple(dropped)


def breaking_times(size, groups, wanted):
    """Return times for which the rules of all groups hold and one of the wanted ones does not, or None."""
    rules = rules_of_all(size, groups)
    for rule in wanted:
        times, refutation = split_of(against(rules, rule))
        if refutation is None:
            return times
    return None
