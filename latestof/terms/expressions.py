"""Expressions: variables or events, joined by "plus", "max" and "min". They have values, and named ones have texts."""

from latestof.checks import is_index, is_titled
from latestof.errors import InvalidExpression, InvalidTimes, ParseError, UnknownEvent
from latestof.rules.rules import check_size, is_delay
from latestof.rules.times import is_times_of_any_size
from latestof.terms.events import are_events, digits_read, is_event, signed, with_delay_written

MAX_PARTS = 6
MAX_DEPTH = 6
MAX_NODES = 60


def leaves_of(value):
    """Return what stands in place of variables or events, from the left, or None if the rest is no expression."""
    found = []
    nodes = 0
    waiting = [(value, 1)]
    while waiting:
        inner, depth = waiting.pop()
        nodes += 1
        if nodes > MAX_NODES or depth > MAX_DEPTH:
            return None
        if not isinstance(inner, tuple):
            found.append(inner)
        elif _is_joined(inner):
            waiting.extend([(part, depth + 1) for part in reversed(parts_of(inner))])
        else:
            return None
    return found


def _is_joined(value):
    """Return whether the value is a word with as many parts as it takes, and with a delay for "plus"."""
    if is_titled(value, "plus", 3):
        return is_delay(value[2])
    return 2 <= len(value) <= MAX_PARTS + 1 and value[0] in ("max", "min")


def parts_of(joined):
    """Return the tuple of the expressions that the word joins."""
    return joined[1:2] if joined[0] == "plus" else joined[1:]


def is_expression(size, value):
    """Return whether the value is an expression of the size."""
    check_size(size)
    leaves = leaves_of(value)
    return leaves is not None and all([is_index(leaf, size) for leaf in leaves])


def is_named_expression(value):
    """Return whether the value is an expression with events in place of variables."""
    leaves = leaves_of(value)
    return leaves is not None and all([is_event(leaf) for leaf in leaves])


def check_expression(size, expression):
    """Raise InvalidNumber if the size is not one, InvalidExpression if the value is not an expression of it."""
    if not is_expression(size, expression):
        raise InvalidExpression("this is not an expression of the size")


def check_named(expression):
    """Raise InvalidExpression if the value is not a named expression."""
    if not is_named_expression(expression):
        raise InvalidExpression("this is not an expression over events")


def value_of(times, expression):
    """Return the value of the expression for the times."""
    if not is_times_of_any_size(times):
        raise InvalidTimes("these are not times of a size from 1 to 8")
    check_expression(len(times), expression)
    return _value(times, expression)


def _value(times, expression):
    if not isinstance(expression, tuple):
        return times[expression]
    values = [_value(times, part) for part in parts_of(expression)]
    if expression[0] == "plus":
        return values[0] + expression[2]
    return max(values) if expression[0] == "max" else min(values)


def numbered(events, expression):
    """Return the expression with the index among the events in place of each event."""
    if not are_events(events):
        raise InvalidExpression("these are not one to eight different events")
    check_named(expression)
    for event in leaves_of(expression):
        if event not in events:
            raise UnknownEvent(event)
    return _numbered(events, expression)


def _numbered(events, expression):
    if not isinstance(expression, tuple):
        return events.index(expression)
    parts = [_numbered(events, part) for part in parts_of(expression)]
    if expression[0] == "plus":
        return "plus", parts[0], expression[2]
    return (expression[0], *parts)


def format_expression(expression):
    """Return the text of the named expression."""
    check_named(expression)
    return _written(expression)


def _written(expression):
    if not isinstance(expression, tuple):
        return expression
    texts = [_written(part) for part in parts_of(expression)]
    if expression[0] == "plus":
        return with_delay_written(texts[0], expression[2])
    listed = ", ".join(texts)
    return f"{expression[0]}({listed})"


def parse_expression(text):
    """Return the named expression with this text."""
    if not isinstance(text, str):
        raise ParseError("this is not a text")
    expression, _ = _sum_read(text, 0, 1)
    # What was let through has another text of its own.
    if not is_named_expression(expression) or _written(expression) != text:
        raise ParseError("this is not the text of an expression")
    return expression


def _sum_read(text, at, depth):
    """Return the expression with its delays that begins there, and where it ends."""
    expression, at = _first_read(text, at, depth)
    while text[at:at + 3] in (" + ", " - "):
        start = at + 3
        end = _end_of(text, start, "0123456789")
        expression = ("plus", expression, signed(text[at + 1], digits_read(text[start:end])))
        at = end
    return expression, at


def _first_read(text, at, depth):
    """Return the event, or the word with its parts, that begins there, and where it ends."""
    word = text[at:at + 3]
    if text[at:at + 4] not in ("max(", "min("):
        end = _end_of(text, at, "ABCDEFGHIJKLMNOPQRSTUVWXYZ")
        return text[at:end], end
    if depth > MAX_DEPTH:
        raise ParseError("the expression is too deep")
    at += 4
    part, at = _sum_read(text, at, depth + 1)
    parts = [part]
    while text[at:at + 2] == ", ":
        part, at = _sum_read(text, at + 2, depth + 1)
        parts.append(part)
    if text[at:at + 1] != ")":
        raise ParseError("a bracket is not closed")
    return (word, *parts), at + 1


def _end_of(text, at, letters):
    """Return where the letters that begin there end."""
    while at < len(text) and text[at] in letters:
        at += 1
    return at
