"""What the tests of plans and stores need: drawn plans, and sets of times and of clauses that are looked at one by one."""

from itertools import combinations, product

from latestof.plans.plans import Plan
from tests.sayings import EVENTS, draw_saying, made, plain_holds


class Grid:
    """All times of some events in a range in which there are some whenever there are any.

    Sets of times are integers with a bit for each of the times. The delays of the clauses must be small: with three
    events, no rule may ask for more than seven.
    """

    def __init__(self, events):
        self.events = events
        self.rows = [dict(zip(events, times)) for times in product(range(-7 * (len(events) - 1), 1), repeat=len(events))]
        self.every = (1 << len(self.rows)) - 1
        self.masks = {}

    def mask(self, saying):
        """Return the set of the times that fulfil what is said."""
        key = repr(saying)
        if key not in self.masks:
            bits = "".join("01"[plain_holds(saying, times)] for times in self.rows)
            self.masks[key] = int(bits[::-1], 2)
        return self.masks[key]

    def common(self, masks):
        found = self.every
        for mask in masks:
            found &= mask
        return found


def subsets(numbers):
    """Return all ascending tuples of these numbers."""
    return [some for many in range(len(numbers) + 1) for some in combinations(numbers, many)]


def least_sets(numbers, enough):
    """Return all tuples of these numbers that are enough, of which no number can be left out."""
    found = []
    for some in subsets(numbers):
        if not any(set(less) <= set(some) for less in found) and enough(some):
            found.append(some)
    return found


def draw_plan(draw, size, many, low=-2, high=2):
    """Return a plan about so many events and the sayings of its clauses, at most 24 rules in all."""
    events = EVENTS[:size]
    order = tuple(sorted(events, key=lambda event: draw.below(1000)))
    plan, sayings = Plan(*order), []
    while len(sayings) < many:
        saying = draw_saying(draw, events, low, high)
        clause = made(saying)
        if len(plan.rules[1]) + len(clause.rules_for(order)) > 24:
            break
        plan.include(clause)
        sayings.append(saying)
    return plan, sayings
