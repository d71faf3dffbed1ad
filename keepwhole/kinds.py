"""What the modules ask of anything at all before they look into it."""


def is_number(thing):
    """Whether thing is a whole number."""
    # Python counts True and False among the whole numbers.
    return isinstance(thing, int) and not isinstance(thing, bool)


def is_tuple_of(thing, many):
    """Whether thing is a tuple of so many parts."""
    return isinstance(thing, tuple) and len(thing) == many
