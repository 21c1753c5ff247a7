"""Slow but plain answers for the certificates: each function goes by the words of the document alone."""

from itertools import product

from tests.support import plainly_holds, plainly_refutes


def is_row(value, length):
    return type(value) is tuple and len(value) == length


def are_integers(value):
    return type(value) is tuple and all(type(entry) is int for entry in value)


def all_hold(listed, times):
    return all(plainly_holds(rule, times) for rule in listed)


def negated_rules(rule):
    left, terms = rule
    return tuple((j, ((left, -c - 1),)) for j, c in terms)


def times_near(size, listed):
    """Return times among which is a solution if there is one: see plainly_possible for the reason."""
    loss = max([0] + [-c for _, terms in listed for _, c in terms])
    return product(range(-(size - 1) * loss, 1), repeat=size)


def plainly_feasible(size, listed):
    return any(all_hold(listed, times) for times in times_near(size, listed))


def plainly_follows(rules, rule):
    return not plainly_feasible(rules[0], rules[1] + negated_rules(rule))


def plain_refutation(rules, value):
    if type(value) is not tuple or not all(is_row(triple, 3) and are_integers(triple) for triple in value):
        return False
    return plainly_refutes(rules, value)


def plain_times(size, value):
    return is_row(value, size) and are_integers(value)


def plain_indices(many, value):
    return are_integers(value) and list(value) == sorted(set(value)) and all(0 <= k < many for k in value)


def plain_solution(rules, value):
    return plain_times(rules[0], value) and all_hold(rules[1], value)


def plain_split(rules, partial, refutation):
    size, listed = rules
    if not is_row(partial, size) or not all(entry is None or type(entry) is int for entry in partial):
        return False
    if not all_hold(listed, partial):
        return False
    missing = [k for k in range(size) if partial[k] is None]
    if not missing:
        return refutation is None
    return plain_refutation(rules, refutation) and [triple[0] for triple in refutation] == missing


def plain_core_certificate(rules, value):
    size, listed = rules
    if not is_row(value, 3):
        return False
    core, refutation, solutions = value
    if not plain_indices(len(listed), core) or not plain_refutation(rules, refutation):
        return False
    if sorted(triple[1] for triple in refutation) != list(core) or not is_row(solutions, len(core)):
        return False
    return all(plain_solution((size, tuple(listed[other] for other in core if other != index)), times)
               for index, times in zip(core, solutions))


def plain_follow_certificate(rules, rule, value):
    size, listed = rules
    if not is_row(value, 2) or type(value[0]) is not str:
        return False
    if value[0] == "breaks":
        return plain_solution(rules, value[1]) and not plainly_holds(rule, value[1])
    return value[0] == "follows" and plain_refutation((size, listed + negated_rules(rule)), value[1])


def plain_reduction_certificate(rules, value):
    size, listed = rules
    if not is_row(value, 2) or not plain_indices(len(listed), value[0]) or not is_row(value[1], len(listed)):
        return False
    kept, reasons = value
    for index, rule in enumerate(listed):
        others = tuple(listed[k] for k in kept if k != index)
        if index in kept:
            if not plain_solution((size, others), reasons[index]) or plainly_holds(rule, reasons[index]):
                return False
        elif not plain_refutation((size, others + negated_rules(rule)), reasons[index]):
            return False
    return True


def plain_tight(rule, times):
    """Return None if the rule does not bind its left, otherwise the variables of its tight terms."""
    left, terms = rule
    sums = [(times[j] + c, j) for j, c in terms if times[j] is not None]
    if times[left] is None or not sums or max(sums)[0] != times[left]:
        return None
    return [j for total, j in sums if total == times[left]]


def plain_latest(rules, bounds, value):
    size, listed = rules
    if not is_row(value, 3) or not plain_split(rules, value[0], value[2]) or not is_row(value[1], size):
        return False
    times, reasons, _ = value
    if any(times[k] is not None and times[k] > bounds[k] for k in range(size)):
        return False
    for entry in reasons:
        if entry is not None and not (is_row(entry, 2) and are_integers(entry) and entry[1] >= 1):
            return False
    for k in range(size):
        if reasons[k] is None:
            if times[k] is not None and times[k] != bounds[k]:
                return False
            continue
        index, rank = reasons[k]
        if not 0 <= index < len(listed) or listed[index][0] != k or plain_tight(listed[index], times) is None:
            return False
        tight = plain_tight(listed[index], times)
        if any(reasons[j] is not None and reasons[j][1] >= rank for j in tight):
            return False
    return True


def plain_upper(rules, i, k, times, value):
    size, listed = rules
    if not plain_indices(size, value) or i not in value or k in value:
        return False
    return all(any(j in value and times[left] <= times[j] + c for j, c in terms)
               for left, terms in listed if left in value)


def plain_gap(rules, i, k, value):
    size, listed = rules
    if type(value) is not tuple or not value or type(value[0]) is not str:
        return False
    if value[0] == "gap" and len(value) == 4:
        _, d, times, refutation = value
        if type(d) is not int or not plain_solution(rules, times) or times[i] - times[k] != d:
            return False
        return plain_refutation((size, listed + ((k, ((i, -d - 1),)),)), refutation)
    if value[0] == "open" and len(value) == 3:
        return plain_solution(rules, value[1]) and plain_upper(rules, i, k, value[1], value[2])
    return value[0] == "refuted" and len(value) == 2 and plain_refutation(rules, value[1])
