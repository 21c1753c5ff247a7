"""Tests of plain values that all modules share."""


def is_integer(value):
    """Return whether the value is an integer, which True and False are not."""
    return isinstance(value, int) and not isinstance(value, bool)


def is_within(value, low, high):
    """Return whether the value is an integer from low to high."""
    return is_integer(value) and low <= value <= high


def is_index(value, length):
    """Return whether the value is an index of a sequence of this length."""
    return is_within(value, 0, length - 1)


def is_tuple_of(value, length):
    """Return whether the value is a tuple of this length."""
    return isinstance(value, tuple) and len(value) == length


def is_titled(value, word, length):
    """Return whether the value is a tuple of this length that begins with the word."""
    return is_tuple_of(value, length) and isinstance(value[0], str) and value[0] == word


def ascends(numbers):
    """Return whether the integers are strictly ascending."""
    return all([numbers[k] < numbers[k + 1] for k in range(len(numbers) - 1)])


def are_ascending_indices(value, length):
    """Return whether the value is an ascending tuple of indices of a sequence of this length."""
    return isinstance(value, tuple) and all([is_index(entry, length) for entry in value]) and ascends(value)


def is_partial(value, length):
    """Return whether the value is a tuple of this length of integers and None."""
    return is_tuple_of(value, length) and all([entry is None or is_integer(entry) for entry in value])
