"""Questions about any value: of what shape it is."""


def is_integer(thing):
    """Tell whether any value is an integer; True and False are none."""
    return isinstance(thing, int) and not isinstance(thing, bool)


def is_integers(thing):
    """Tell whether any value is a tuple of integers."""
    return isinstance(thing, tuple) and all([is_integer(part) for part in thing])


def is_exact(thing):
    """Tell whether any value is a tuple of integers, or of tuples of integers, as weavings and orders are."""
    return is_integers(thing) or isinstance(thing, tuple) and all([is_integers(part) for part in thing])


def is_tuple_of(thing, many):
    """Tell whether any value is a tuple with so many items."""
    return isinstance(thing, tuple) and len(thing) == many
