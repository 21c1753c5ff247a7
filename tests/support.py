"""What several test files need: the document's examples, wrong values, drawn rule sets, and slow but plain answers."""

from itertools import product

R = (3, ((0, ((1, 2), (2, -1))), (1, ((0, -3),)), (2, ((1, 4),))))
T = (2, ((0, ((1, -1),)), (1, ((0, 0),)), (1, ((0, 2),))))
P = (4, T[1] + ((2, ((0, 9),)), (3, ((0, 1), (2, 1))), (3, ())))

HUGE = 10 ** 50 - 7

# None of these is an integer in the sense of the document.
NO_INTEGERS = (True, False, None, "", "0", "x" * 2000, b"", b"\x01", (), (1,), [], [1], {}, {0: 1})


def nested(depth):
    """Return tuples, lists and dicts nested as deep as the document allows arguments to be."""
    value = ()
    for level in range(depth):
        value = ((value,), [value], {level: value})[level % 3]
    return value


# None of these is a rule, a rule set, times, a refutation, a verdict or a split, whatever the size.
JUNK = NO_INTEGERS[:-7] + (
    b"ab", (), [], {}, {0: 0}, 0, 1, 8, -1, HUGE, -HUGE, ((),), [()], (None,), (True,), ("0",), nested(39),
    (0,) * 9, [0, 0], (True, 0), ("times",), ("refuted",), ("times", None), ("refuted", ()), (b"times", (0, 0)),
    (0, [0]), (0, None), (0, "ab"), (0, b"ab"), (0, {}), (None, {}), ((0, 0, 0), None, ()),
)

BAD_SIZES = NO_INTEGERS + (0, -1, 9, HUGE, -HUGE)

# Each of these differs from a rule set in one part.
BAD_RULE_SETS = JUNK + (
    R[:1], R + ((),), [3, R[1]], (0, ()), (9, ()), (True, ()), (None, R[1]), ("3", R[1]), (-1, ()), (HUGE, ()),
    (3, None), (3, list(R[1])), (3, "rules"), (3, b""), (3, {}), (3, 0), (2, R[1]), (3, R[1] + (None,)), (3, R),
    (3, (list(R[1][0]),)), (3, ((0,),)), (3, ((0, (), ()),)), (3, ((3, ()),)), (3, ((-1, ()),)), (3, ((False, ()),)),
    (3, ((None, ()),)), (3, (("0", ()),)), (3, ((HUGE, ()),)), (3, ((0, None),)), (3, ((0, []),)), (3, ((0, {}),)),
    (3, ((0, ""),)), (3, ((0, b""),)), (3, ((0, (1, 2)),)), (3, ((0, ([1, 2],)),)), (3, ((0, ((1,),)),)),
    (3, ((0, ((1, 2, 3),)),)), (3, ((0, ((3, 0),)),)), (3, ((0, ((-1, 0),)),)), (3, ((0, ((True, 0),)),)),
    (3, ((0, ((None, 0),)),)), (3, ((0, (("1", 0),)),)), (3, ((0, (({}, 0),)),)), (3, ((0, ((1, True),)),)),
    (3, ((0, ((1, None),)),)), (3, ((0, ((1, "0"),)),)), (3, ((0, ((1, [0]),)),)), (3, ((0, ((1, 60),)),)),
    (3, ((0, ((1, -61),)),)), (3, ((0, ((1, HUGE),)),)), (3, ((0, ((1, -HUGE),)),)), (3, ((0, ((1, 0), (0, 0))),)),
    (3, ((0, ((1, 0), (1, 1))),)), (3, ((0, ((1, 0), (1, 0))),)), (3, ((0, ((2, 0), (1, 0))),)),
    (1, ((0, ()),) * 25),
)

# Each of these differs from times of size 2 in one part.
BAD_TIMES = JUNK + (
    (0,), (0, 0, 0), [0, 0], (0, True), (False, 0), (0, None), (0, "0"), (b"\x00", 0), (0, (0,)), (0, [0]), ({}, 0),
)


# Each of these differs from a rule of size 3 in one part.
BAD_RULES = JUNK + ((3, ()), (-1, ()), (False, ()), (HUGE, ()), [0, ()], (0,), (0, (), ()), ((0, ()),)) + tuple(
    wrong[1][0] for wrong in BAD_RULE_SETS
    if isinstance(wrong, tuple) and len(wrong) == 2 and wrong[0] == 3 and isinstance(wrong[1], tuple)
    and len(wrong[1]) == 1)

# Each of these differs from a variable of size 3.
BAD_VARIABLES = NO_INTEGERS + (3, -1, HUGE, -HUGE)


def variants(value):
    """Return values that differ from a nested tuple in one part, each part in several ways."""
    if isinstance(value, tuple):
        found = [list(value), value + (None,), value + (0,), (value,), dict(enumerate(value))]
        for k, part in enumerate(value):
            found += [value[:k] + value[k + 1:], value[:k + 1] + value[k:]]
            found += [value[:j] + (part,) + value[j + 1:k] + (value[j],) + value[k + 1:] for j in range(k)]
            found += [value[:k] + (other,) + value[k + 1:] for other in variants(part)]
        return found
    if isinstance(value, int):
        found = [value + 1, value - 1, value + 2, value - HUGE, value + HUGE, str(value), None, (value,), [value]]
        return found + [bool(value)] * (value in (0, 1))
    if isinstance(value, str):
        return [value + "s", value.title(), value.encode(), None, (value,), [value], True, "times", "open", "gap",
                "refuted", "follows", "breaks", "middle", "pace", "free", "never"]
    return [(), 0, False, True, "", "None", (None,), [None], ((0, 0, 0),), -1]


class Draw:
    """Draws numbers that are the same in every run."""

    def __init__(self, seed):
        self.state = seed

    def below(self, limit):
        self.state = (self.state * 6364136223846793005 + 1442695040888963407) % 2 ** 64
        return (self.state >> 33) % limit

    def between(self, low, high):
        return low + self.below(high - low + 1)

    def rule(self, size, low, high, most_terms):
        many = self.between(0 if self.below(8) == 0 else 1, min(size, most_terms))
        variables = list(range(size))
        chosen = sorted(variables.pop(self.below(len(variables))) for _ in range(many))
        return self.below(size), tuple((variable, self.between(low, high)) for variable in chosen)

    def rule_set(self, size, many, low, high, most_terms=8):
        return size, tuple(self.rule(size, low, high, most_terms) for _ in range(many))


def ring(size, delays):
    """Return the rule set of one ring: each variable is not later than the next one plus its delay."""
    return size, tuple((k, (((k + 1) % size, delays[k]),)) for k in range(size))


def rings(size):
    """Return pairs of a total delay of -1, 0 or 1 and a ring with it, of small delays and of the greatest and least."""
    found = []
    half = size // 2
    for total in (-1, 0, 1):
        found.append((total, ring(size, [0] * (size - 1) + [total])))
        for wide in ([59, -60] * half, [59] * half + [-60] * half):
            wide = wide + [0] * (size % 2)
            wide[-1] += total - sum(wide)
            found.append((total, ring(size, wide)))
    return found


def plainly_holds(rule, times):
    """Return whether a rule holds for times, in which None stands for no time."""
    left, terms = rule
    if times[left] is None:
        return True
    return any(times[j] is not None and times[left] <= times[j] + c for j, c in terms)


def plainly_possible(rules):
    """Return the possible variables: tries all partial solutions in the range in which there must be one.

    If a partial solution has the greatest set of variables, the latest one of at most 0 has no time below minus
    the sum of the greatest losses: a walker along the rules need not come twice to the same variable.
    """
    size, listed = rules
    loss = max([-c for _, terms in listed for _, c in terms] + [0])
    entries = [None] + list(range(-(size - 1) * loss, 1))
    possible = set()
    for times in product(entries, repeat=size):
        if all(plainly_holds(rule, times) for rule in listed):
            possible.update(j for j in range(size) if times[j] is not None)
    return possible


def lowered(rules, bounds=None):
    """Return the times within the bounds that are left when times are lowered one by one, None below the least sum."""
    size, listed = rules
    times = [0] * size if bounds is None else list(bounds)
    floor = sum(min([0] + [c for left, terms in listed for _, c in terms if left == k]) for k in range(size))
    floor += min(times)
    changed = True
    while changed:
        changed = False
        for left, terms in listed:
            if times[left] is None:
                continue
            right = max([times[j] + c for j, c in terms if times[j] is not None], default=floor - 1)
            if right < times[left]:
                times[left] = right if right >= floor else None
                changed = True
    return tuple(times)


def plainly_refutes(rules, value):
    """Return whether a tuple of triples of integers is a refutation, by the words of the document."""
    size, listed = rules
    variables = [triple[0] for triple in value]
    if not value or variables != sorted(set(variables)):
        return False
    numbers = {triple[0]: triple[2] for triple in value}
    for variable, index, number in value:
        if not 0 <= variable < size or not 0 <= index < len(listed) or listed[index][0] != variable:
            return False
        for j, c in listed[index][1]:
            if j not in numbers or not number >= numbers[j] + len(value) * c + 1:
                return False
    return True


def all_refutations(rules, factor=None, amount=1):
    """Yield a refutation for each choice of variables and of a rule for each of them that makes one.

    With a factor and an amount they are triples as in a pace certificate.
    """
    size, listed = rules
    options = [[None] + [k for k in range(len(listed)) if listed[k][0] == variable] for variable in range(size)]
    for choice in product(*options):
        chosen = {variable: index for variable, index in enumerate(choice) if index is not None}
        numbers = numbers_for(listed, chosen, factor, amount)
        if numbers is not None:
            yield tuple((variable, chosen[variable], numbers[variable]) for variable in sorted(chosen))


def refuted_variables(rules):
    """Return the variables of all refutations."""
    return {triple[0] for refutation in all_refutations(rules) for triple in refutation}


def numbers_for(listed, chosen, factor=None, amount=1):
    """Return numbers with which the chosen rules, a dict from variables to indices, make a refutation, or None.

    With a factor and an amount they are numbers as in a pace certificate.
    """
    terms = [(variable, j, c) for variable, index in chosen.items() for j, c in listed[index][1]]
    if not chosen or not all(j in chosen for _, j, _ in terms):
        return None
    factor = len(chosen) if factor is None else factor
    numbers = dict.fromkeys(chosen, 0)
    for _ in range(len(chosen) + 1):
        raised = False
        for variable, j, c in terms:
            if numbers[variable] < numbers[j] + factor * c + amount:
                numbers[variable] = numbers[j] + factor * c + amount
                raised = True
    return None if raised else numbers


def moved(numbering, by):
    """Return the triples with the same integer added to all numbers."""
    return tuple((variable, index, number + by) for variable, index, number in numbering)


def shown(value):
    """Return a short text for messages; some values are too great or too long to be shown whole."""
    try:
        return repr(value)[:60]
    except ValueError:
        return "a great integer"
