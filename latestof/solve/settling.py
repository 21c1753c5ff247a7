"""Finds the latest times within bounds, and the rules that leave some variables without any time.

Each variable has a choice: None, which lets it stay at its bound, or the index of a rule that it must obey. A choice
is replaced only by a rule whose right side is less than the present time of the variable. So the delays on every
circular way of the chosen rules have a negative sum: along the way each time is at least the next one plus the
delay, and it is greater where a choice was replaced last. Therefore the times under the choices are well defined,
none of them ever rises, and no choices come twice.

Delays and bounds may be any integers: the number of steps depends on the rules, not on how great the numbers are.
"""

from latestof.rules.holding import greatest_sum


def settled(rules, bounds):
    """Return (times, choices) for which no variable has a rule with a smaller right side than its time.

    The times have None for each variable whose chosen rule leads to no variable that stays at its bound.
    """
    listed = rules[1]
    choices = [None] * len(bounds)
    times = list(bounds)
    better = _tightened(listed, times, choices)
    while better != choices:
        choices = better
        times = _times_under(listed, bounds, choices)
        better = _tightened(listed, times, choices)
    return tuple(times), choices


def _tightened(listed, times, choices):
    """Return the choices with the rule of the least right side for each variable whose time is greater than it."""
    better = list(choices)
    least = list(times)
    for index, (left, terms) in enumerate(listed):
        right = greatest_sum(terms, times)
        if least[left] is not None and (right is None or right < least[left]):
            better[left] = index
            least[left] = right
    return better


def _times_under(listed, bounds, choices):
    """Return, for each variable, the greatest time to which a way by chosen rules to a bound lets it rise.

    There is None where no way leads to a variable that stays at its bound. No circular way raises a time again, so
    the loop ends.
    """
    times = [bound if index is None else None for bound, index in zip(bounds, choices)]
    chosen = [(variable, listed[index][1]) for variable, index in enumerate(choices) if index is not None]
    rising = True
    while rising:
        rising = False
        for variable, terms in chosen:
            right = greatest_sum(terms, times)
            if right != times[variable]:
                times[variable] = right
                rising = True
    return times
