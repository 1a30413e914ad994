"""Plain values: numbers, tuples in the place of lists, sets as ascending tuples."""


def tupled(value):
    """The value with a tuple for each list in it, at any depth."""
    if isinstance(value, (list, tuple)):
        return tuple([tupled(part) for part in value])
    return value


def is_number(thing):
    return isinstance(thing, int) and not isinstance(thing, bool)


def is_number_below(thing, many):
    """Whether thing is one of the numbers from 0 on that are below many."""
    return is_number(thing) and 0 <= thing < many


def are_numbers_below(thing, many):
    """Whether thing is a tuple of such numbers."""
    return isinstance(thing, tuple) and all([is_number_below(part, many) for part in thing])


def is_turn(thing, many):
    """Whether thing is a tuple of the numbers below many, each just once."""
    # The length is looked at first: sorting a thing of any kinds could fail.
    if not isinstance(thing, tuple) or len(thing) != many or not are_numbers_below(thing, many):
        return False
    return sorted(thing) == list(range(many))


def ascending(values):
    """The set of these values: an ascending tuple, each one once."""
    return tuple(sorted(set(values)))


def without(values, value):
    """The tuple of all of them that are not this value."""
    return tuple([other for other in values if other != value])


def numbers_in(code, many):
    """The numbers below many that the bits of code stand for: a way to go through all sets."""
    return tuple([number for number in range(many) if (code >> number) & 1 == 1])


def is_tuple_of(thing, many):
    """Whether thing is a tuple of so many."""
    return isinstance(thing, tuple) and len(thing) == many


def are_tuples_of(thing, many):
    """Whether thing is a tuple of tuples of so many."""
    return isinstance(thing, tuple) and all([is_tuple_of(part, many) for part in thing])


def are_pairs_of_numbers(thing):
    """Whether thing is a tuple of pairs of numbers."""
    return are_tuples_of(thing, 2) and all([is_number(part) for pair in thing for part in pair])


def is_set_below(thing, many):
    """Whether thing is a set of numbers from 0 on that are below many."""
    return are_numbers_below(thing, many) and ascending(thing) == thing


def are_unlike(parts):
    """Whether no two of these are alike."""
    return len(ascending(parts)) == len(parts)


def all_orders(parts):
    """All orders of these values, which are ascending: an ascending list."""
    orders = [()]
    for _ in range(len(parts)):
        orders = [order + (part,) for order in orders for part in parts if part not in order]
    return orders


def all_sets(parts):
    """All sets of these values, which are ascending: those of fewer ahead, of as many the lesser one."""
    sets = [tuple([parts[at] for at in numbers_in(code, len(parts))]) for code in range(1 << len(parts))]
    return sorted(sets, key=lambda some: (len(some), some))


def greatest_sets(many, fits):
    """The ascending list of the sets of numbers below many that fit, none within another; fits tells it of a set."""
    found = []
    # The greater ones first: what lies within one that fits is not asked for.
    for some in reversed(all_sets(list(range(many)))):
        if not any([all([number in other for number in some]) for other in found]) and fits(some):
            found.append(some)
    return sorted(found)


def count_turned(numbers):
    """How many pairs of these numbers stand with the greater one ahead."""
    many = 0
    for at in range(len(numbers)):
        many += len([number for number in numbers[at + 1:] if number < numbers[at]])
    return many


def least_first(ring):
    """The ring, turned round till the least one is first."""
    first = ring.index(min(ring))
    return ring[first:] + ring[:first]
