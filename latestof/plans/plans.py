"""Plans: events with clauses about them, and a horizon."""

from latestof.checks import are_ascending_indices, is_index, is_within
from latestof.errors import InvalidBounds, InvalidNumber, InvalidPlan, ParseError, Refuted, TooLarge, UnknownEvent
from latestof.latest.gaps import greatest_gap
from latestof.latest.latest import MAX_BOUND
from latestof.plans.answers import (
    breaking_times, core_of, owners_of, reason_of, repair_of, rules_of_all, support_of,
)
from latestof.plans.clauses import Clause, check_clause
from latestof.solve.settling import settled
from latestof.solve.splitting import split_of
from latestof.terms.events import are_events, integer_read

HORIZON = "horizon "


def _is_bound(value):
    return is_within(value, -MAX_BOUND, MAX_BOUND)


class Plan:
    """Events in order, clauses about them, numbered from 0, and the bound of all events that have no other one."""

    EVENTS = 8
    RULES = 24

    def __init__(self, *events):
        if not are_events(events):
            raise InvalidPlan("these are not one to eight different events")
        self._events = events
        self._horizon = 0
        self._clauses = ()
        # The rules of each clause.
        self._groups = ()

    @classmethod
    def over(cls, events):
        """Return a plan with the events of a tuple."""
        if not isinstance(events, tuple):
            raise InvalidPlan("this is not a tuple of events")
        return cls(*events)

    @property
    def events(self):
        """The events, in order."""
        return self._events

    @property
    def rules(self):
        """The rule set of the plan."""
        return rules_of_all(len(self._events), self._groups)

    @property
    def horizon(self):
        """The bound of all events that have no other one."""
        return self._horizon

    @horizon.setter
    def horizon(self, value):
        if not _is_bound(value):
            raise InvalidNumber(value)
        self._horizon = value

    def with_horizon(self, value):
        """Return an equal plan with another horizon."""
        plan = self._with_clauses(self._numbers())
        plan.horizon = value
        return plan

    def _numbers(self):
        return list(range(len(self._clauses)))

    def _with_clauses(self, numbers):
        """Return a plan with the same events, the same horizon, and the clauses of these numbers."""
        plan = Plan.over(self._events)
        plan.horizon = self._horizon
        plan._clauses = tuple([self._clauses[number] for number in numbers])
        plan._groups = tuple([self._groups[number] for number in numbers])
        return plan

    def include(self, clause):
        """Add the clause and return its number."""
        rules = self._rules_of(clause)
        if len(self.rules[1]) + len(rules) > Plan.RULES:
            raise TooLarge(Plan.RULES)
        self._clauses = (*self._clauses, clause)
        self._groups = (*self._groups, rules)
        return len(self._clauses) - 1

    def _rules_of(self, clause):
        """Return the rules of any clause for the events of the plan."""
        check_clause(clause)
        return clause.rules_for(self._events)

    def clauses(self):
        """Yield the pairs of a number and a clause, ascending."""
        for number, clause in enumerate(self._clauses):
            yield number, clause

    def owner(self, index):
        """Return the number of the clause to which the rule with this index belongs."""
        owners = owners_of(self._groups, self._numbers())
        if not is_index(index, len(owners)):
            raise InvalidNumber(index)
        return owners[index]

    def part(self, numbers):
        """Return a new plan with the clauses of these numbers, numbered anew."""
        self._check_numbers(numbers)
        return self._with_clauses(numbers)

    def _check_numbers(self, numbers):
        if not are_ascending_indices(numbers, len(self._clauses)):
            raise InvalidNumber(numbers)

    def is_possible(self):
        """Return whether some times fulfil all clauses."""
        return self.times() is not None

    def times(self):
        """Return times that fulfil all clauses, or None."""
        times, refutation = split_of(self.rules)
        return self._dated(times) if refutation is None else None

    def _dated(self, times):
        """Return a dict from each event, ascending, to its entry of the times."""
        return {event: times[self._events.index(event)] for event in sorted(self._events)}

    def latest(self, bounds=None, **more):
        """Return a dict from each event, ascending, to its latest time within the bounds, or None."""
        return self._dated(settled(self.rules, self._bounds(bounds, more))[0])

    def _bounds(self, bounds, more):
        """Return the bounds of all events, in order. What is in more replaces what is in the bounds."""
        given = {} if bounds is None else bounds
        if not isinstance(given, dict):
            raise InvalidBounds("these are not bounds of events")
        if not all([event in self._events and _is_bound(time) for event, time in given.items()]):
            raise InvalidBounds("these are not bounds of events of the plan")
        for name in sorted(more):
            self._check_event(name)
        if not all([_is_bound(time) for time in more.values()]):
            raise InvalidBounds("these are not bounds")
        found = {**given, **more}
        return tuple([found.get(event, self._horizon) for event in self._events])

    def _check_event(self, event):
        if event not in self._events:
            raise UnknownEvent(event)

    def reason_for(self, event, bounds=None, **more):
        """Return the numbers of a least set of clauses that give the event its latest time within the bounds."""
        self._check_event(event)
        limits = self._bounds(bounds, more)
        return reason_of(len(self._events), self._groups, limits, self._events.index(event))

    def core(self):
        """Return the numbers of a least set of clauses that no times fulfil, or None if the plan is possible."""
        return core_of(len(self._events), self._groups)

    def repair(self, *, keep=()):
        """Return the numbers of a least set of clauses, none of keep, without which the rest is possible, or None."""
        self._check_numbers(keep)
        return repair_of(len(self._events), self._groups, keep)

    def support(self, clause):
        """Return ("rests", numbers) with a least set of clauses from which the clause follows, or ("breaks", times)."""
        rules = self._rules_of(clause)
        times = breaking_times(len(self._events), self._groups, rules)
        if times is not None:
            return "breaks", self._dated(times)
        return "rests", support_of(len(self._events), self._groups, rules)

    def follows(self, clause):
        """Return whether the clause is fulfilled by all times that fulfil all clauses of the plan."""
        return breaking_times(len(self._events), self._groups, self._rules_of(clause)) is None

    def gap(self, first, second):
        """Return how much later the first event can be than the second one, or None if there is no bound."""
        self._check_event(first)
        self._check_event(second)
        core = self.core()
        if core is not None:
            raise Refuted(core)
        return greatest_gap(self.rules, self._events.index(first), self._events.index(second))

    def __len__(self):
        return len(self._clauses)

    def __eq__(self, other):
        if not isinstance(other, Plan) or self._events != other._events:
            return False
        return self._horizon == other._horizon and self._clauses == other._clauses

    def __str__(self):
        listed = " ".join(self._events)
        lines = [f"events {listed}"]
        if self._horizon != 0:
            lines.append(f"{HORIZON}{self._horizon}")
        lines.extend([str(clause) for clause in self._clauses])
        return "\n".join(lines)

    @classmethod
    def read(cls, text):
        """Return the plan with this text."""
        if not isinstance(text, str):
            raise ParseError("this is not a text")
        lines = text.split("\n")
        try:
            plan = cls.over(tuple(lines[0].split(" ")[1:]))
            _fill(plan, lines[1:])
        except (InvalidPlan, InvalidNumber, UnknownEvent, TooLarge):
            raise ParseError("this is not the text of a plan") from None
        # What was let through has another text of its own.
        if str(plan) != text:
            raise ParseError("this is not the text of a plan")
        return plan


def _fill(plan, lines):
    """Give the plan the horizon and the clauses of these lines."""
    rest = lines
    if lines and lines[0].startswith(HORIZON):
        plan.horizon = integer_read(lines[0][len(HORIZON):])
        rest = lines[1:]
    for line in rest:
        plan.include(Clause.read(line))
