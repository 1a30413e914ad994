"""Plain values: numbers, tuples in the place of lists, sets as ascending tuples."""


def tupled(value):
    """The value with a tuple for each list in it, at any depth."""
    if isinstance(value, (list, tuple)):
        return tuple([tupled(part) for part in value])
    return value


def is_number(thing):
    return isinstance(thing, int) and not isinstance(thing, bool)


def is_number_below(thing, many):
    """Whether thing is one of the numbers from 0 on that are below many."""
    return is_number(thing) and 0 <= thing < many


def are_numbers_below(thing, many):
    """Whether thing is a tuple of such numbers."""
    return isinstance(thing, tuple) and all([is_number_below(part, many) for part in thing])


def is_turn(thing, many):
    """Whether thing is a tuple of the numbers below many, each just once."""
    # The length is looked at first: sorting a thing of any kinds could fail.
    if not isinstance(thing, tuple) or len(thing) != many or not are_numbers_below(thing, many):
        return False
    return sorted(thing) == list(range(many))


def ascending(values):
    """The set of these values: an ascending tuple, each one once."""
    return tuple(sorted(set(values)))


def without(values, value):
    """The tuple of all of them that are not this value."""
    return tuple([other for other in values if other != value])


def numbers_in(code, many):
    """The numbers below many that the bits of code stand for: a way to go through all sets."""
    return tuple([number for number in range(many) if (code >> number) & 1 == 1])
