"""Events and numbers as texts write them."""

from latestof.rules.rules import MAX_VARIABLES

MAX_LETTERS = 8

# No number of a text has more digits.
MAX_DIGITS = 3


def is_event(value):
    """Return whether the value is a string of one to eight capital letters."""
    if not isinstance(value, str) or not 1 <= len(value) <= MAX_LETTERS:
        return False
    return value.isascii() and value.isalpha() and value.isupper()


def are_events(value):
    """Return whether the value is a tuple of one to eight different events."""
    if not isinstance(value, tuple) or not 1 <= len(value) <= MAX_VARIABLES:
        return False
    return all([is_event(entry) for entry in value]) and len(set(value)) == len(value)


def digits_read(text):
    """Return the number that these few digits write, or None for every other text. Leading zeros are let through."""
    if not 1 <= len(text) <= MAX_DIGITS or not text.isascii() or not text.isdigit():
        return None
    return int(text)


def signed(sign, number):
    """Return the number with a sign, + or -. It may be None, for a text that cannot be read."""
    if number is None or sign != "-":
        return number
    return -number


def integer_read(text):
    """Return the integer that the text writes, or None for every other text. Leading zeros and -0 are let through."""
    if text.startswith("-"):
        return signed("-", digits_read(text[1:]))
    return digits_read(text)


def with_delay_written(text, delay):
    """Return the text, a sign and the digits of the delay."""
    sign = "-" if delay < 0 else "+"
    return f"{text} {sign} {abs(delay)}"
