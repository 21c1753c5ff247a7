"""Rule sets as bytes."""

from latestof.errors import ParseError
from latestof.rules.rules import MAX_DELAY, check_rules, is_rule_set

MARK = b"LATE"


def pack(rules):
    """Return the bytes of the rule set."""
    check_rules(rules)
    return _packed(rules)


def _packed(rules):
    size, listed = rules
    numbers = [*MARK, size, len(listed)]
    for left, terms in listed:
        numbers.extend([left, len(terms)])
        for variable, delay in terms:
            numbers.extend([variable, delay + MAX_DELAY])
    return bytes([*numbers, sum(numbers) % 256])


def unpack(data):
    """Return the rule set with these bytes."""
    if not isinstance(data, bytes):
        raise ParseError("these are not bytes")
    rules = _unpacked(list(data))
    # What was let through is no rule set or has other bytes of its own.
    if not is_rule_set(rules) or _packed(rules) != data:
        raise ParseError("these are not the bytes of a rule set")
    return rules


def _unpacked(numbers):
    """Return the size and the rules that the numbers tell, or None if they end before."""
    if len(numbers) < len(MARK) + 2:
        return None
    size, many = numbers[len(MARK):len(MARK) + 2]
    at = len(MARK) + 2
    rules = []
    for _ in range(many):
        rule, at = _rule_at(numbers, at)
        rules.append(rule)
    return size, tuple(rules)


def _rule_at(numbers, at):
    """Return the rule that is told from there on, and where it ends. It is None if the numbers end before."""
    head = numbers[at:at + 2]
    if len(head) < 2:
        return None, at
    left, many = head
    end = at + 2 + 2 * many
    body = numbers[at + 2:end]
    if len(body) < 2 * many:
        return None, at
    return (left, tuple([(body[k], body[k + 1] - MAX_DELAY) for k in range(0, len(body), 2)])), end
