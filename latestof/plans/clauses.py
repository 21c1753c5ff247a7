"""Clauses: conditions on the times of events. They never change."""

from latestof.checks import is_integer, is_tuple_of, is_within
from latestof.errors import (
    InvalidClause, InvalidExpression, InvalidPlan, InvalidTimes, ParseError, TooLarge, UnknownEvent,
)
from latestof.plans.wording import clause_read, options_written
from latestof.rules.holding import fulfils
from latestof.rules.loose import in_order
from latestof.rules.rules import MAX_VARIABLES
from latestof.terms.events import are_events, is_event
from latestof.terms.expressions import check_named, format_expression, numbered
from latestof.terms.forms import rules_of

MAX_OPTIONS = 6
MAX_TOGETHER = 5


class Clause:
    """What the seven kinds of clauses share.

    A clause is the same as another one if both have the same kind and equal arguments. Its rules are kept with events
    in place of variables.
    """

    LIMIT = 59

    def __init__(self, kind, arguments, rules, text):
        self._set_up(kind, arguments, rules, text)

    def _set_up(self, kind, arguments, rules, text):
        """Set what the clause keeps.

        Between and AllOf use this in their constructors: those of their bases would make them clauses of another kind.
        """
        self._kind = kind
        self._arguments = arguments
        self._rules = rules
        self._text = text
        self._events = tuple(sorted(set(_events_in(arguments))))

    @property
    def events(self):
        """The events of the clause, ascending."""
        return self._events

    def rules_for(self, names):
        """Return the rules of the clause, in which each event is the variable with its index among the names."""
        if not are_events(names):
            raise InvalidPlan("these are not one to eight different events")
        for event in self._events:
            if event not in names:
                raise UnknownEvent(event)
        return self._numbered_rules(names)

    def _numbered_rules(self, names):
        return tuple([(names.index(left), in_order([(names.index(event), delay) for event, delay in terms]))
                      for left, terms in self._rules])

    def holds(self, times):
        """Return whether the times, a dict from events to integers, fulfil the clause."""
        if not _are_named_times(times) or not all([event in times for event in self._events]):
            raise InvalidTimes("these are not times of the events of the clause")
        return fulfils((len(self._events), self._rules), times)

    def renamed(self, names):
        """Return the clause in which each event is replaced by its value in a dict, if it has one."""
        if not _are_new_names(names):
            raise InvalidClause("this is not a dict from events to events")
        replaced = [names.get(event, event) for event in self._events]
        if len(set(replaced)) < len(replaced):
            raise InvalidClause("two different events would become equal")
        return _made(self._kind, _with_names(names, self._arguments))

    def __str__(self):
        return str(self._text)

    def __eq__(self, other):
        return isinstance(other, Clause) and self._kind == other._kind and self._arguments == other._arguments

    @staticmethod
    def read(text):
        """Return the clause with this text."""
        if not isinstance(text, str):
            raise ParseError("this is not a text")
        try:
            kind, arguments = clause_read(text)
            clause = _made(kind, arguments)
        except (InvalidClause, InvalidExpression, TooLarge):
            raise ParseError("this is not the text of a clause") from None
        if str(clause) != text:
            raise ParseError("this is not the text of a clause")
        return clause


def _events_in(value):
    """Return the events that stand anywhere in a tuple. They are told from other words by their letters."""
    if isinstance(value, tuple):
        return [event for part in value for event in _events_in(part)]
    return [value] if is_event(value) else []


def _with_names(names, value):
    """Return the value with another event in place of each one that is a key of the dict."""
    if isinstance(value, tuple):
        return tuple([_with_names(names, part) for part in value])
    return names.get(value, value) if is_event(value) else value


def _are_named_times(value):
    """Return whether the value is a dict from events to integers."""
    if not isinstance(value, dict):
        return False
    return all([is_event(event) and is_integer(time) for event, time in value.items()])


def _are_new_names(value):
    """Return whether the value is a dict from events to events."""
    if not isinstance(value, dict):
        return False
    return all([is_event(event) and is_event(name) for event, name in value.items()])


def _require(valid):
    """Raise InvalidClause if the arguments of a clause are not valid."""
    if not valid:
        raise InvalidClause("these are not arguments of a clause")


def _is_delay(value):
    return is_within(value, -Clause.LIMIT, Clause.LIMIT)


def _is_option(value):
    return is_tuple_of(value, 2) and is_event(value[0]) and _is_delay(value[1])


def _least_rule(first, second, least):
    return first, ((second, -least),)


def _most_rule(first, second, most):
    return second, ((first, most),)


class AtLeast(Clause):
    """From the first event to the second one it takes at least so long."""

    def __init__(self, first, second, *, least=0):
        _require(is_event(first) and is_event(second) and _is_delay(least))
        rules = (_least_rule(first, second, least),)
        Clause.__init__(self, "AtLeast", (first, second, least), rules, f"{first} to {second} at least {least}")


class AtMost(Clause):
    """From the first event to the second one it takes at most so long."""

    def __init__(self, first, second, *, most=0):
        _require(is_event(first) and is_event(second) and _is_delay(most))
        rules = (_most_rule(first, second, most),)
        Clause.__init__(self, "AtMost", (first, second, most), rules, f"{first} to {second} at most {most}")


class Between(AtLeast, AtMost):
    """From the first event to the second one it takes at least and at most so long."""

    def __init__(self, first, second, *, least=0, most=0):
        _require(is_event(first) and is_event(second) and _is_delay(least) and _is_delay(most))
        rules = (_least_rule(first, second, least), _most_rule(first, second, most))
        text = f"{first} to {second} from {least} to {most}"
        self._set_up("Between", (first, second, least, most), rules, text)


class SomeOf(Clause):
    """The event comes no later than at least one of the options."""

    def __init__(self, event, *options):
        _require(is_event(event) and len(options) <= MAX_OPTIONS and all([_is_option(entry) for entry in options]))
        text = f"{event} by some of {options_written(options)}"
        Clause.__init__(self, "SomeOf", (event, options), ((event, options),), text)

    @classmethod
    def over(cls, event, options):
        """Return the clause with the options of a tuple."""
        _require(isinstance(options, tuple))
        return cls(event, *options)


class AllOf(SomeOf):
    """The event comes no later than any of the options."""

    def __init__(self, event, *options):
        _require(is_event(event) and len(options) <= MAX_OPTIONS and all([_is_option(entry) for entry in options]))
        rules = tuple([(event, (option,)) for option in options])
        text = f"{event} by all of {options_written(options)}"
        self._set_up("AllOf", (event, options), rules, text)


class Together(Clause):
    """The times of the events differ by at most so much."""

    def __init__(self, *events, apart=0):
        _require(are_events(events) and 2 <= len(events) <= MAX_TOGETHER and is_within(apart, 0, Clause.LIMIT))
        ordered = tuple(sorted(events))
        rules = tuple([(one, ((other, apart),)) for one in ordered for other in ordered if one != other])
        listed = ", ".join(ordered)
        Clause.__init__(self, "Together", (ordered, apart), rules, f"{listed} within {apart}")

    @classmethod
    def over(cls, events, *, apart=0):
        """Return the clause about the events of a tuple."""
        _require(isinstance(events, tuple))
        return cls(*events, apart=apart)


class Compare(Clause):
    """The value of the left expression is at most that of the right one."""

    def __init__(self, left, right):
        check_named(left)
        check_named(right)
        names = tuple(sorted(set(_events_in((left, right)))))
        if len(names) > MAX_VARIABLES:
            raise TooLarge(MAX_VARIABLES)
        rules = tuple([(names[variable], tuple([(names[other], delay) for other, delay in terms]))
                       for variable, terms in _rules_between(names, left, right)])
        text = f"{format_expression(left)} <= {format_expression(right)}"
        Clause.__init__(self, "Compare", (left, right), rules, text)

    def _numbered_rules(self, names):
        # The order of the rules is that of the variables, and so it depends on the names.
        left, right = self._arguments
        return _rules_between(names, left, right)


def _rules_between(names, left, right):
    """Return the rules by which an expression over the names is at most another one."""
    return rules_of(len(names), numbered(names, left), numbered(names, right))[1]


def is_clause(value):
    """Return whether the value is a clause of one of the seven classes."""
    return isinstance(value, (AtLeast, AtMost, SomeOf, Together, Compare))


def check_clause(value):
    """Raise InvalidClause if the value is not a clause."""
    if not is_clause(value):
        raise InvalidClause("this is not a clause")


def _made(kind, arguments):
    """Return the clause of the kind with these arguments."""
    first, second = arguments[:2]
    if kind == "SomeOf":
        return SomeOf.over(first, second)
    if kind == "AllOf":
        return AllOf.over(first, second)
    if kind == "Together":
        return Together.over(first, apart=second)
    if kind == "Compare":
        return Compare(first, second)
    if kind == "AtLeast":
        return AtLeast(first, second, least=arguments[2])
    if kind == "AtMost":
        return AtMost(first, second, most=arguments[2])
    return Between(first, second, least=arguments[2], most=arguments[3])
