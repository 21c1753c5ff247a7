"""Greatest differences: how much later one variable can be than another one."""

from latestof.checks import are_ascending_indices, is_integer, is_titled
from latestof.errors import Refuted
from latestof.rules.holding import fulfils
from latestof.rules.rules import check_rules, check_variable
from latestof.rules.times import is_solution
from latestof.solve.refutations import refutes
from latestof.solve.settling import settled
from latestof.solve.splitting import refutation_of_rest, split_of

# The delays on a way that comes to no variable twice have a sum from -420 to 413. So a time that a bound of 0 limits
# is far below this, and one that only a bound of FAR limits is far above it.
HALFWAY = 5000
FAR = 10000


def _check(rules, variable, other):
    check_rules(rules)
    check_variable(rules[0], variable)
    check_variable(rules[0], other)


def gap_certificate(rules, variable, other):
    """Return ("gap", d, times, refutation), ("open", times, upper) or ("refuted", refutation).

    Of all solutions in which the other variable has a time of at most 0 and none has one above FAR, the latest one
    is taken. There the other variable has the time 0, and the variables above HALFWAY do without all others.
    """
    _check(rules, variable, other)
    size = rules[0]
    times, choices = settled(rules, [0 if k == other else FAR for k in range(size)])
    refutation = refutation_of_rest(rules, times, choices)
    if refutation is not None:
        return "refuted", refutation
    if times[variable] > HALFWAY:
        return "open", times, tuple([k for k in range(size) if times[k] > HALFWAY])
    gap = times[variable]
    return "gap", gap, times, split_of(_with_greater_gap(rules, variable, other, gap))[1]


def _with_greater_gap(rules, variable, other, gap):
    """Return the loose rule set with a rule behind all others that asks for a difference greater than the gap."""
    size, listed = rules
    return size, (*listed, (other, ((variable, -gap - 1),)))


def is_gap_certificate(rules, variable, other, value):
    """Return whether the value is one of the three certificates."""
    _check(rules, variable, other)
    if is_titled(value, "refuted", 2):
        return refutes(rules, value[1])
    if is_titled(value, "open", 3):
        return is_solution(rules, value[1]) and _is_upper_set(rules, variable, other, value[1], value[2])
    return is_titled(value, "gap", 4) and _is_gap(rules, variable, other, value)


def _is_upper_set(rules, variable, other, times, value):
    """Return whether the value is an upper set for the times, which are a solution."""
    if not are_ascending_indices(value, rules[0]) or variable not in value or other in value:
        return False
    return fulfils(rules, [entry if k in value else None for k, entry in enumerate(times)])


def _is_gap(rules, variable, other, value):
    """Return whether the three parts behind the word fit together."""
    _, gap, times, refutation = value
    if not is_integer(gap) or not is_solution(rules, times) or times[variable] - times[other] != gap:
        return False
    return refutes(_with_greater_gap(rules, variable, other, gap), refutation)


def greatest_gap(rules, variable, other):
    """Return the greatest difference of the variable and the other one, or None if there is none."""
    certificate = gap_certificate(rules, variable, other)
    if certificate[0] == "refuted":
        raise Refuted(certificate[1])
    return certificate[1] if certificate[0] == "gap" else None
