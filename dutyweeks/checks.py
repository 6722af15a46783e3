"""What is asked of values of any kind before anything else is done with them."""

from math import gcd


def is_integer(value):
    """Whether value is an int that is not a bool."""
    return isinstance(value, int) and not isinstance(value, bool)


def is_between(value, low, high):
    """Whether value is an integer from low up to high."""
    return is_integer(value) and low <= value <= high


def is_tuple(value, low, high):
    """Whether value is a tuple of low up to high members, of whatever kind."""
    return isinstance(value, tuple) and low <= len(value) <= high


def are_ascending(value, bound):
    """Whether value is an ascending tuple of numbers below bound, perhaps ()."""
    if not isinstance(value, tuple) or not all([is_between(x, 0, bound - 1) for x in value]):
        return False
    return rises(value)


def rises(values):
    """Whether each of the values, which can be compared, is more than the one ahead of it."""
    return all([values[k - 1] < values[k] for k in range(1, len(values))])


def is_ratio(value):
    """Whether value is a ratio: a pair of integers in lowest terms, the second one above 0."""
    if not is_tuple(value, 2, 2) or not all([is_integer(x) for x in value]):
        return False
    return value[1] > 0 and gcd(value[0], value[1]) == 1


def lowest(a, b):
    """The ratio that stands for a / b, b above 0."""
    divisor = gcd(a, b)
    return (a // divisor, b // divisor)


def plain(value):
    """The value with each tuple in it, itself too, as a plain tuple of no class of its own."""
    if not isinstance(value, tuple):
        return value
    return tuple([plain(x) for x in value])


def is_same(value, told):
    """Whether value is equal to told, which is of plain tuples, strings and integers alone; a bool is equal to none."""
    if not isinstance(told, tuple):
        return value == told and not isinstance(value, bool)
    if not isinstance(value, tuple) or len(value) != len(told):
        return False
    return all([is_same(one, other) for one, other in zip(value, told)])
