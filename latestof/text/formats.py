"""Rule sets as texts."""

from latestof.errors import ParseError
from latestof.rules.rules import check_rules, is_rule_set
from latestof.terms.events import digits_read, signed

NO_TERMS = "never"


def format_rules(rules):
    """Return the text of the rule set."""
    check_rules(rules)
    return _written(rules)


def _written(rules):
    size, listed = rules
    return "; ".join([str(size), *[_rule_written(rule) for rule in listed]])


def _rule_written(rule):
    left, terms = rule
    written = " | ".join([_term_written(variable, delay) for variable, delay in terms]) if terms else NO_TERMS
    return f"{left} <= {written}"


def _term_written(variable, delay):
    sign = "-" if delay < 0 else "+"
    return f"{variable}{sign}{abs(delay)}"


def parse_rules(text):
    """Return the rule set with this text."""
    if not isinstance(text, str):
        raise ParseError("this is not a text")
    parts = text.split("; ")
    rules = digits_read(parts[0]), tuple([_rule_read(part) for part in parts[1:]])
    # What was let through is no rule set or has another text of its own.
    if not is_rule_set(rules) or _written(rules) != text:
        raise ParseError("this is not the text of a rule set")
    return rules


def _rule_read(text):
    left, _, right = text.partition(" <= ")
    if right == NO_TERMS:
        return digits_read(left), ()
    return digits_read(left), tuple([_term_read(part) for part in right.split(" | ")])


def _term_read(text):
    sign = "-" if "-" in text else "+"
    variable, _, digits = text.partition(sign)
    return digits_read(variable), signed(sign, digits_read(digits))
