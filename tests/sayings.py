"""What the tests of expressions and clauses need: wrong values, drawn values and plain answers.

A *saying* is a pair of the name of a class of clauses and a dict of its arguments. The plain answers go by the words of
the document alone and use nothing of the package.
"""

import re

from latestof.plans import clauses as module
from tests.support import HUGE, NO_INTEGERS, nested

EVENTS = ("A", "B", "C", "D", "E", "F", "G", "H")
LETTERS = "ABCDEFGHIJKLMNOPQRSTUVWXYZ"

# None of these is an event.
BAD_EVENTS = NO_INTEGERS + (
    0, 1, -1, HUGE, "a", "Ab", "aB", "ABCDEFGHI", "A" * 2000, "A1", " A", "A ", "A B", "A\n", "A-B", "A,B", "max",
    "plus", b"A", b"AB", ("A",), ["A"], {"A": 0}, ("A", 0), nested(39),
)
GOOD_EVENTS = ("A", "Z", "MAX", "ABCDEFGH", "ZZZZZZZZ")

# None of these is a tuple of one to eight different events.
BAD_NAMES = tuple(wrong for wrong in BAD_EVENTS if wrong != ("A",)) + (
    "A", ["A", "B"], {"A": 0, "B": 1}, ("A", "A"), ("A", "B", "A"), tuple(LETTERS[:9]), ("A", "b"), ("A", ""),
    ("A", None), ("A", 1), ("A", b"B"), ("A", ("B",)), ("A", ["B"]), ("A", "ABCDEFGHI"), ("A", {}), ("A", "B", True),
)

# None of these is a delay of a clause.
BAD_DELAYS = NO_INTEGERS + (60, -60, HUGE, -HUGE, "3", "-3")


def plain_shape(leaf_is_right, value):
    """Return the nodes and the depth of an expression, or None if the value has not its form."""
    if type(value) is not tuple:
        return (1, 1) if leaf_is_right(value) else None
    if not value or type(value[0]) is not str:
        return None
    if value[0] == "plus":
        if len(value) != 3 or type(value[2]) is not int or not -60 <= value[2] <= 59:
            return None
        parts = value[1:2]
    elif value[0] in ("max", "min") and 1 <= len(value) - 1 <= 6:
        parts = value[1:]
    else:
        return None
    shapes = [plain_shape(leaf_is_right, part) for part in parts]
    if None in shapes:
        return None
    return 1 + sum(nodes for nodes, _ in shapes), 1 + max(depth for _, depth in shapes)


def plain_is_expression(size, value):
    shape = plain_shape(lambda leaf: type(leaf) is int and 0 <= leaf < size, value)
    return shape is not None and shape[0] <= 60 and shape[1] <= 6


def plain_is_event(value):
    return type(value) is str and re.fullmatch("[A-Z]{1,8}", value) is not None


def plain_is_named(value):
    shape = plain_shape(plain_is_event, value)
    return shape is not None and shape[0] <= 60 and shape[1] <= 6


def plain_leaves(value):
    if type(value) is not tuple:
        return [value]
    return [leaf for part in (value[1:2] if value[0] == "plus" else value[1:]) for leaf in plain_leaves(part)]


def plain_value(times, expression):
    """Return the value. The times are anything that has an entry for each leaf."""
    if type(expression) is not tuple:
        return times[expression]
    if expression[0] == "plus":
        return plain_value(times, expression[1]) + expression[2]
    values = [plain_value(times, part) for part in expression[1:]]
    return max(values) if expression[0] == "max" else min(values)


def with_leaves(table, expression):
    """Return the expression with other leaves."""
    if type(expression) is not tuple:
        return table[expression]
    if expression[0] == "plus":
        return "plus", with_leaves(table, expression[1]), expression[2]
    return (expression[0],) + tuple(with_leaves(table, part) for part in expression[1:])


def plain_text(expression):
    if type(expression) is not tuple:
        return expression
    if expression[0] == "plus":
        delay = expression[2]
        return plain_text(expression[1]) + (" - %d" % -delay if delay < 0 else " + %d" % delay)
    return expression[0] + "(" + ", ".join(plain_text(part) for part in expression[1:]) + ")"


DELAY = r"( \+ (0|[1-9][0-9]?)| - [1-9][0-9]?)"


def plain_parsed(text):
    """Return the named expression with this text, or None. Takes the text apart from inside by patterns."""
    if type(text) is not str or not text.isascii() or re.search("[0-9]_|_[0-9]", text):
        return None
    found = []

    def keep(expression):
        found.append(expression)
        return "_%d_" % (len(found) - 1)

    def leaf(match):
        return keep(match.group())

    def plus(match):
        sign, digits = match.group(2).split()
        return keep(("plus", found[int(match.group(1))], int(sign + digits)))

    def joined(match):
        return keep((match.group(1),) + tuple(found[int(part.strip("_"))] for part in match.group(2).split(", ")))

    if "_" in text:
        return None
    left = re.sub(r"(?<![A-Za-z])[A-Z]{1,8}(?![A-Za-z])", leaf, text)
    for _ in range(3000):
        longer = re.sub(r"_([0-9]+)_" + DELAY + r"(?![0-9])", plus, left, count=1)
        if longer == left:
            longer = re.sub(r"(?<![A-Za-z_])(max|min)\((_[0-9]+_(?:, _[0-9]+_)*)\)", joined, left, count=1)
        if longer == left:
            break
        left = longer
    match = re.fullmatch("_([0-9]+)_", left)
    if match is None:
        return None
    expression = found[int(match.group(1))]
    return expression if plain_is_named(expression) else None


def plain_below(one, other):
    numbers = dict(other)
    return all(j in numbers and c <= numbers[j] for j, c in one)


def plain_least(maxima):
    kept = {m for m in maxima if not any(other != m and plain_below(other, m) for other in maxima)}
    return tuple(sorted(kept))


class Many(Exception):
    """There are more than 60 maxima."""


def plain_form(expression):
    """Return the form by the words of the document; raises Many where they ask for TooLarge(60)."""
    if type(expression) is not tuple:
        return (((expression, 0),),)
    if expression[0] == "plus":
        return tuple(tuple((j, c + expression[2]) for j, c in m) for m in plain_form(expression[1]))
    forms = [plain_form(part) for part in expression[1:]]
    found = forms[0]
    for form in forms[1:]:
        if expression[0] == "min":
            found = plain_least(set(found) | set(form))
        else:
            pairs = set()
            for one in found:
                for other in form:
                    both = dict(one)
                    for j, c in other:
                        both[j] = max(c, both.get(j, c))
                    pairs.add(tuple(sorted(both.items())))
            found = plain_least(pairs)
        if len(found) > 60:
            raise Many
    return found


def form_value(times, form):
    return min(max(times[j] + c for j, c in maximum) for maximum in form)


def draw_expression(draw, leaves, budget, depth=6, low=-60, high=59):
    """Return an expression with at most so many nodes, and so deep at most."""
    if budget < 2 or depth < 2 or draw.below(5) == 0:
        return leaves[draw.below(len(leaves))]
    if draw.below(3) == 0:
        return "plus", draw_expression(draw, leaves, budget - 1, depth - 1, low, high), draw.between(low, high)
    many = draw.between(1, min(6, budget - 1))
    part = (budget - 1) // many
    return (("max", "min")[draw.below(2)],) + tuple(
        draw_expression(draw, leaves, part, depth - 1, low, high) for _ in range(many))


def draw_maximum(draw, leaves, low, high):
    """Return an expression whose form has one maximum."""
    parts = tuple(("plus", leaves[draw.below(len(leaves))], draw.between(low, high)) for _ in range(draw.between(1, 3)))
    return parts[0] if len(parts) == 1 else ("max",) + parts


def draw_saying(draw, events, low=-59, high=59):
    """Return a saying about some of the events."""
    def event():
        return events[draw.below(len(events))]

    kind = ("AtLeast", "AtMost", "Between", "SomeOf", "AllOf", "Together", "Compare")[draw.below(7)]
    if kind in ("SomeOf", "AllOf"):
        options = tuple((event(), draw.between(low, high)) for _ in range(draw.between(0 if draw.below(4) == 0 else 1, 4)))
        return kind, {"event": event(), "options": options}
    if kind == "Together" and len(events) > 1:
        left = list(events)
        chosen = tuple(left.pop(draw.below(len(left))) for _ in range(draw.between(2, min(len(left), 4))))
        return kind, {"events": chosen, "apart": draw.between(0, max(high, 0))}
    if kind == "Compare":
        low, high = max(min(low, 9), -10), max(min(high, 9), -10)
        right = draw_expression(draw, events, draw.between(1, 7), 3, low, high)
        return kind, {"left": draw_maximum(draw, events, low, high), "right": right}
    kind = kind if kind != "Together" else "AtLeast"
    numbers = {"AtLeast": ("least",), "AtMost": ("most",), "Between": ("least", "most")}[kind]
    return kind, {"first": event(), "second": event(), **{name: draw.between(low, high) for name in numbers}}


def made(saying):
    """Return the clause of a saying."""
    kind, given = saying
    built = getattr(module, kind)
    if kind in ("SomeOf", "AllOf"):
        return built(given["event"], *given["options"])
    if kind == "Together":
        return built(*given["events"], apart=given["apart"])
    if kind == "Compare":
        return built(given["left"], given["right"])
    numbers = {name: given[name] for name in ("least", "most") if name in given}
    return built(given["first"], given["second"], **numbers)


def plain_events(saying):
    kind, given = saying
    if kind == "Compare":
        return tuple(sorted(set(plain_leaves(given["left"]) + plain_leaves(given["right"]))))
    if kind == "Together":
        return tuple(sorted(given["events"]))
    if kind in ("SomeOf", "AllOf"):
        return tuple(sorted({given["event"]} | {event for event, _ in given["options"]}))
    return tuple(sorted({given["first"], given["second"]}))


def plain_holds(saying, times):
    """Return whether times, a dict, fulfil what is said."""
    kind, given = saying
    if kind == "Compare":
        return plain_value(times, given["left"]) <= plain_value(times, given["right"])
    if kind == "Together":
        found = [times[event] for event in given["events"]]
        return max(found) - min(found) <= given["apart"]
    if kind in ("SomeOf", "AllOf"):
        holds = [times[given["event"]] <= times[event] + delay for event, delay in given["options"]]
        return any(holds) if kind == "SomeOf" else all(holds)
    passed = times[given["second"]] - times[given["first"]]
    return passed >= given.get("least", passed) and passed <= given.get("most", passed)


def plain_saying_text(saying):
    kind, given = saying
    if kind == "Compare":
        return plain_text(given["left"]) + " <= " + plain_text(given["right"])
    if kind == "Together":
        return "%s within %d" % (", ".join(sorted(given["events"])), given["apart"])
    if kind in ("SomeOf", "AllOf"):
        options = [plain_text(("plus", event, delay)) if delay else event for event, delay in given["options"]]
        word = {"SomeOf": "some", "AllOf": "all"}[kind]
        return "%s by %s of %s" % (given["event"], word, ", ".join(options) or "nothing")
    start = "%s to %s " % (given["first"], given["second"])
    if kind == "Between":
        return start + "from %d to %d" % (given["least"], given["most"])
    return start + ("at least %d" % given["least"] if kind == "AtLeast" else "at most %d" % given["most"])


def text_variants(text):
    """Return texts that differ from the text in one place: in a letter, a digit, a sign, a blank, or a part of it."""
    found = ["", text + " ", " " + text, text + "\n", "\n" + text, text + text, text.lower(), text.upper(), text + "0",
             text + ")", text + ", ", text + "_", text.replace(" ", ""), text.replace(" ", "  "), text.replace(" ", "\t"),
             text.replace("-", "+"), text.replace("+", "-"), text.replace("0", ""), text[::-1]]
    for k in range(len(text)):
        found.append(text[:k] + text[k + 1:])
        found.append(text[:k] + text[k] + text[k:])
        found += [text[:k] + other + text[k + 1:] for other in " +-0A(,1;|\n"]
        found += [text[:k] + other + text[k:] for other in (" ", "0", "-", "A", "+ 0", ", A", "00")]
        if k:
            found.append(text[:k - 1] + text[k] + text[k - 1] + text[k + 1:])
    return [other for other in found if other != text]
