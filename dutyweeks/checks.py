"""What is asked of values of any kind before anything else is done with them."""


def is_integer(value):
    """Whether value is an int that is not a bool."""
    return isinstance(value, int) and not isinstance(value, bool)


def is_between(value, low, high):
    """Whether value is an integer from low up to high."""
    return is_integer(value) and low <= value <= high


def is_tuple(value, low, high):
    """Whether value is a tuple of low up to high members, of whatever kind."""
    return isinstance(value, tuple) and low <= len(value) <= high


def are_ascending(value, bound):
    """Whether value is an ascending tuple of numbers below bound, perhaps ()."""
    if not isinstance(value, tuple) or not all([is_between(x, 0, bound - 1) for x in value]):
        return False
    return all([value[k - 1] < value[k] for k in range(1, len(value))])


def plain(value):
    """The value with each tuple in it, itself too, as a plain tuple of no class of its own."""
    if not isinstance(value, tuple):
        return value
    return tuple([plain(x) for x in value])
