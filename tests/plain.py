"""Slow but plain answers for the certificates: each function goes by the words of the document alone."""

from fractions import Fraction
from itertools import permutations, product
from math import gcd

from tests.support import lowered, plainly_holds, plainly_refutes


def is_row(value, length):
    return type(value) is tuple and len(value) == length


def are_integers(value):
    return type(value) is tuple and all(type(entry) is int for entry in value)


def all_hold(listed, times):
    return all(plainly_holds(rule, times) for rule in listed)


def negated_rules(rule):
    left, terms = rule
    return tuple((j, ((left, -c - 1),)) for j, c in terms)


def times_near(size, listed):
    """Return times among which is a solution if there is one: see plainly_possible for the reason."""
    loss = max([0] + [-c for _, terms in listed for _, c in terms])
    return product(range(-(size - 1) * loss, 1), repeat=size)


def plainly_feasible(size, listed):
    return any(all_hold(listed, times) for times in times_near(size, listed))


def plainly_follows(rules, rule):
    return not plainly_feasible(rules[0], rules[1] + negated_rules(rule))


def plain_refutation(rules, value):
    if type(value) is not tuple or not all(is_row(triple, 3) and are_integers(triple) for triple in value):
        return False
    return plainly_refutes(rules, value)


def plain_times(size, value):
    return is_row(value, size) and are_integers(value)


def plain_indices(many, value):
    return are_integers(value) and list(value) == sorted(set(value)) and all(0 <= k < many for k in value)


def plain_solution(rules, value):
    return plain_times(rules[0], value) and all_hold(rules[1], value)


def plain_split(rules, partial, refutation):
    size, listed = rules
    if not is_row(partial, size) or not all(entry is None or type(entry) is int for entry in partial):
        return False
    if not all_hold(listed, partial):
        return False
    missing = [k for k in range(size) if partial[k] is None]
    if not missing:
        return refutation is None
    return plain_refutation(rules, refutation) and [triple[0] for triple in refutation] == missing


def plain_core_certificate(rules, value):
    size, listed = rules
    if not is_row(value, 3):
        return False
    core, refutation, solutions = value
    if not plain_indices(len(listed), core) or not plain_refutation(rules, refutation):
        return False
    if sorted(triple[1] for triple in refutation) != list(core) or not is_row(solutions, len(core)):
        return False
    return all(plain_solution((size, tuple(listed[other] for other in core if other != index)), times)
               for index, times in zip(core, solutions))


def plain_follow_certificate(rules, rule, value):
    size, listed = rules
    if not is_row(value, 2) or type(value[0]) is not str:
        return False
    if value[0] == "breaks":
        return plain_solution(rules, value[1]) and not plainly_holds(rule, value[1])
    return value[0] == "follows" and plain_refutation((size, listed + negated_rules(rule)), value[1])


def plain_reduction_certificate(rules, value):
    size, listed = rules
    if not is_row(value, 2) or not plain_indices(len(listed), value[0]) or not is_row(value[1], len(listed)):
        return False
    kept, reasons = value
    for index, rule in enumerate(listed):
        others = tuple(listed[k] for k in kept if k != index)
        if index in kept:
            if not plain_solution((size, others), reasons[index]) or plainly_holds(rule, reasons[index]):
                return False
        elif not plain_refutation((size, others + negated_rules(rule)), reasons[index]):
            return False
    return True


def plain_tight(rule, times):
    """Return None if the rule does not bind its left, otherwise the variables of its tight terms."""
    left, terms = rule
    sums = [(times[j] + c, j) for j, c in terms if times[j] is not None]
    if times[left] is None or not sums or max(sums)[0] != times[left]:
        return None
    return [j for total, j in sums if total == times[left]]


def plain_latest(rules, bounds, value):
    size, listed = rules
    if not is_row(value, 3) or not plain_split(rules, value[0], value[2]) or not is_row(value[1], size):
        return False
    times, reasons, _ = value
    if any(times[k] is not None and times[k] > bounds[k] for k in range(size)):
        return False
    for entry in reasons:
        if entry is not None and not (is_row(entry, 2) and are_integers(entry) and entry[1] >= 1):
            return False
    for k in range(size):
        if reasons[k] is None:
            if times[k] is not None and times[k] != bounds[k]:
                return False
            continue
        index, rank = reasons[k]
        if not 0 <= index < len(listed) or listed[index][0] != k or plain_tight(listed[index], times) is None:
            return False
        tight = plain_tight(listed[index], times)
        if any(reasons[j] is not None and reasons[j][1] >= rank for j in tight):
            return False
    return True


def plain_upper(rules, i, k, times, value):
    size, listed = rules
    if not plain_indices(size, value) or i not in value or k in value:
        return False
    return all(any(j in value and times[left] <= times[j] + c for j, c in terms)
               for left, terms in listed if left in value)


def plain_gap(rules, i, k, value):
    size, listed = rules
    if type(value) is not tuple or not value or type(value[0]) is not str:
        return False
    if value[0] == "gap" and len(value) == 4:
        _, d, times, refutation = value
        if type(d) is not int or not plain_solution(rules, times) or times[i] - times[k] != d:
            return False
        return plain_refutation((size, listed + ((k, ((i, -d - 1),)),)), refutation)
    if value[0] == "open" and len(value) == 3:
        return plain_solution(rules, value[1]) and plain_upper(rules, i, k, value[1], value[2])
    return value[0] == "refuted" and len(value) == 2 and plain_refutation(rules, value[1])


def simpler(rule):
    """Return the simplified rule in a list, or an empty list if it always holds."""
    left, terms = rule
    if any(j == left and c >= 0 for j, c in terms):
        return []
    return [(left, tuple((j, c) for j, c in terms if j != left))]


def plain_without(rules, k):
    """Return the rules without k and their sources, by the four steps of the document."""
    size, listed = rules
    first = [(rule, index) for index in range(len(listed)) for rule in simpler(listed[index])]
    apart = [(terms, index) for (left, terms), index in first if left == k]
    second = []
    for (left, terms), index in first:
        if left == k:
            continue
        delays = [c for j, c in terms if j == k]
        if not delays:
            second.append(((left, terms), (index, None)))
            continue
        for own, other in apart:
            joined = [(j, c) for j, c in terms if j != k] + [(j, c + delays[0]) for j, c in own]
            best = sorted({j: max(c for i, c in joined if i == j) for j, _ in joined}.items())
            second.append(((left, tuple(best)), (index, other)))
    empty = [index for terms, index in apart if terms == ()]
    third = second + [((k, ()), (index, None)) for index in empty[:1]]
    rules_left, sources_left = [], []
    for rule, source in third:
        for better in simpler(rule):
            if better not in rules_left:
                rules_left.append(better)
                sources_left.append(source)
    return (size, tuple(rules_left)), tuple(sources_left)


def occurring(listed):
    return {j for _, terms in listed for j, _ in terms} | {left for left, terms in listed if terms}


def is_loose(size, value):
    """Return whether the value is a loose rule set of the size."""
    if not is_row(value, 2) or type(value[0]) is not int or value[0] != size or type(value[1]) is not tuple:
        return False
    for rule in value[1]:
        if not is_row(rule, 2) or type(rule[0]) is not int or not 0 <= rule[0] < size or type(rule[1]) is not tuple:
            return False
        if not all(is_row(term, 2) and are_integers(term) for term in rule[1]):
            return False
        if not plain_indices(size, tuple(j for j, _ in rule[1])):
            return False
    return True


def plain_interpolant(first, second, value):
    size = first[0]
    if type(value) is not tuple or not value or type(value[0]) is not str:
        return False
    if value[0] == "times" and len(value) == 2:
        return plain_solution((size, first[1] + second[1]), value[1])
    if value[0] != "middle" or len(value) != 4:
        return False
    _, middle, reasons, refutation = value
    if not is_loose(size, middle) or len(middle[1]) > 24 or not is_row(reasons, len(middle[1])):
        return False
    if not occurring(middle[1]) <= occurring(first[1]) & occurring(second[1]):
        return False
    return plain_refutation((size, middle[1] + second[1]), refutation) and all(
        plain_refutation((size, first[1] + negated_rules(rule)), reason) for rule, reason in zip(middle[1], reasons))


def plain_game_solution(rules, value):
    size, listed = rules
    if not is_row(value, 4) or not is_row(value[0], size) or not is_row(value[1], len(listed)):
        return False
    energies, moves, reasons, refutation = value
    if not all(entry is None or type(entry) is int for entry in energies):
        return False
    times = tuple(None if entry is None else -entry for entry in energies)
    if not plain_latest(rules, (0,) * size, (times, reasons, refutation)):
        return False
    for (left, terms), move in zip(listed, moves):
        if energies[left] is None:
            if move is not None:
                return False
        elif type(move) is not int or not any(
                j == move and energies[j] is not None and energies[left] + c >= energies[j] for j, c in terms):
            return False
    return True


def plain_play(rules, variable, energy, moves, naming):
    """Return the positions of a play and how it ends."""
    listed = rules[1]
    positions = [(variable, energy)]
    met = {}
    while True:
        variable, energy = positions[-1]
        if energy < 0:
            return positions, "lost"
        if min(met.get(variable, []), default=energy + 1) <= energy:
            return positions, "safe"
        met[variable] = met.get(variable, [])[-1:] + [energy]
        index = naming[variable]
        if index is None:
            index = next((k for k in range(len(listed)) if listed[k][0] == variable), None)
        if index is None:
            return positions, "won"
        terms = listed[index][1]
        if not terms:
            return positions, "lost"
        goal = terms[0][0] if moves[index] is None else moves[index]
        positions.append((goal, energy + dict(terms)[goal]))


def scaled(rules, p, q):
    return rules[0], tuple((left, tuple((j, q * c + p) for j, c in terms)) for left, terms in rules[1])


def goes_at(rules, fraction):
    return None not in lowered(scaled(rules, fraction.numerator, fraction.denominator))


def plain_order(rules, order):
    return all(any(order.index(j) < order.index(left) for j, _ in terms) for left, terms in rules[1])


def plain_pace(rules):
    """Return the pace: tries all orders, and then all fractions that there can be, the least first."""
    size, listed = rules
    if any(not terms for _, terms in listed):
        return "never"
    if any(plain_order(rules, order) for order in permutations(range(size))):
        return "free"
    fractions = {Fraction(p, q) for q in range(1, size + 1) for p in range(-12 * q, 12 * q + 1)}
    found = next(fraction for fraction in sorted(fractions) if goes_at(rules, fraction))
    return found.numerator, found.denominator


def plain_pace_certificate(rules, value):
    size, listed = rules
    if type(value) is not tuple or not value or type(value[0]) is not str:
        return False
    if value[0] == "never" and len(value) == 2:
        return type(value[1]) is int and 0 <= value[1] < len(listed) and listed[value[1]][1] == ()
    if value[0] == "free" and len(value) == 2:
        return plain_times(size, value[1]) and sorted(value[1]) == list(range(size)) and plain_order(rules, value[1])
    if value[0] != "pace" or len(value) != 4:
        return False
    _, fraction, times, low = value
    if not is_row(fraction, 2) or not are_integers(fraction) or fraction[1] < 1 or gcd(*fraction) != 1:
        return False
    p, q = fraction
    if not plain_solution(scaled(rules, p, q), times) or type(low) is not tuple or not low:
        return False
    if not all(is_row(triple, 3) and are_integers(triple) for triple in low):
        return False
    if not plain_indices(size, tuple(triple[0] for triple in low)):
        return False
    numbers = {variable: number for variable, _, number in low}
    for variable, index, number in low:
        if not 0 <= index < len(listed) or listed[index][0] != variable:
            return False
        if not all(j in numbers and number >= numbers[j] + q * c + p for j, c in listed[index][1]):
            return False
    return True
