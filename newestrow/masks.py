"""Sets of numbers below a bound, as masks: tuples of integers, in one of which each number has a bit."""

# Several integers, so that none of them becomes large where there are many numbers.
BITS = 512


def mask_of(numbers, bound):
    """Return the mask of numbers that are below a bound; masks with one bound can be taken together."""
    parts = [0 for _ in range(0, bound, BITS)]
    for number in numbers:
        at = number // BITS
        parts[at] = parts[at] | (1 << (number - at * BITS))
    return tuple(parts)


def common(one, other):
    """Return the mask of the numbers that are in both."""
    return tuple([part & also for part, also in zip(one, other)])


def is_empty(mask):
    """Tell whether no number is in a mask."""
    return not any(mask)


def has_number(mask, number):
    """Tell whether a number is in a mask."""
    at = number // BITS
    return (mask[at] >> (number - at * BITS)) & 1 == 1


def lowest(mask):
    """Return the lowest number in a mask that is not empty."""
    at = 0
    while mask[at] == 0:
        at += 1
    return at * BITS + (mask[at] & -mask[at]).bit_length() - 1
