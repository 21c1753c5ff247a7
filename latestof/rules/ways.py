"""Ways along chosen rules: from the left variable of a rule to a variable of its terms, and so on.

Ways are a dict from each variable that has a chosen rule to a dict from each variable that a way leads to from
there to the greatest sum of delays on such a way. Only variables with a chosen rule are passed on a way.
"""


def with_choice(ways, variable, terms):
    """Return the ways that there are when a rule with these terms is chosen for the variable too.

    Returns None if a circular way through the variable has a sum of at least 0.
    """
    own = {}
    for other, delay in terms:
        _raise_to(own, other, delay)
        raise_by(own, ways.get(other, {}), delay)
    if own.get(variable, -1) >= 0:
        return None
    found = {variable: own}
    for start in ways:
        longer = dict(ways[start])
        if variable in longer:
            raise_by(longer, own, longer[variable])
        found[start] = longer
    return found


def _raise_to(sums, variable, total):
    """Let the sum of the variable be at least the total."""
    if variable not in sums or sums[variable] < total:
        sums[variable] = total


def raise_by(sums, further, delay):
    """Let the sums be at least those of the further ways behind a way with this delay."""
    for variable, total in further.items():
        _raise_to(sums, variable, delay + total)
