"""What kind of value something is."""


def is_whole(value):
    """Return whether a value is an integer; True and False are none."""
    return isinstance(value, int) and not isinstance(value, bool)


def is_between(value, low, high):
    """Return whether a value is an integer from low to high."""
    return is_whole(value) and low <= value <= high


def is_group(value, size):
    """Return whether a value is a tuple of so many items."""
    return isinstance(value, tuple) and len(value) == size


def is_shared(value, size, most):
    """Return whether a value is a tuple of so many integers of at least 0, together at most so much."""
    return is_group(value, size) and all([is_between(part, 0, most) for part in value]) and sum(value) <= most
