"""Reads and writes the parts of which the texts of clauses are made.

What is read is the kind of a clause and its arguments. A text that is wrong may be let through: then something in the
arguments is None or no event, or their own text is another one.
"""

from latestof.errors import ParseError
from latestof.terms.events import digits_read, integer_read, signed, with_delay_written
from latestof.terms.expressions import parse_expression

NO_OPTIONS = "nothing"


def options_written(options):
    """Return the text of the options."""
    return ", ".join([_option_written(event, delay) for event, delay in options]) if options else NO_OPTIONS


def _option_written(event, delay):
    return event if delay == 0 else with_delay_written(event, delay)


def clause_read(text):
    """Return the kind and the arguments of the clause that a text says."""
    left, found, right = text.partition(" <= ")
    if found:
        return "Compare", (parse_expression(left), parse_expression(right))
    for words, kind in ((" by some of ", "SomeOf"), (" by all of ", "AllOf")):
        left, found, right = text.partition(words)
        if found:
            return kind, (left, _options_read(right))
    left, found, right = text.partition(" within ")
    if found:
        return "Together", (tuple(left.split(", ")), integer_read(right))
    return _spread_read(text.split(" "))


def _options_read(text):
    if text == NO_OPTIONS:
        return ()
    return tuple([_option_read(part.split(" ")) for part in text.split(", ")])


def _option_read(words):
    if len(words) == 1:
        return words[0], 0
    if len(words) == 3:
        return words[0], signed(words[1], digits_read(words[2]))
    return None


def _spread_read(words):
    """Return the kind and the arguments of a clause about two events: A to B at least 3, A to B from 3 to 10."""
    if len(words) == 6 and words[4] == "least":
        return "AtLeast", (words[0], words[2], integer_read(words[5]))
    if len(words) == 6 and words[4] == "most":
        return "AtMost", (words[0], words[2], integer_read(words[5]))
    if len(words) == 7:
        return "Between", (words[0], words[2], integer_read(words[4]), integer_read(words[6]))
    raise ParseError("this is not the text of a clause")
