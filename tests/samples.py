"""A call or more of each function that has landed: arguments as tuples, and things that are what they ought to be."""

import interface

PAY = ("plain", (("read", "x"), ("write", "x")))
LOOK = ("shot", (("read", "x"), ("read", "y")))
NOTE = ("plain", (("write", "z"),))
JOBS = (PAY, LOOK, NOTE)
MIX = (0, 1, 0, 1, 0, 2, 1, 2)
OTHER_MIX = (2, 1, 1, 0, 0, 2, 0, 1)

ADDS = (("shot", (("read", "x"), ("write", "x"))), ("shot", (("read", "x"), ("write", "x"))))
SKEW = (("watched", (("read", "x"), ("read", "y"), ("write", "x"))),
        ("watched", (("read", "x"), ("read", "y"), ("write", "y"))))
TURN = (0, 1, 0, 1, 0, 1, 0, 1)

ASK = ("shot", (("read", "a"), ("write", "d")))
GIVE = ("plain", (("write", "a"), ("write", "b")))
CUT = (ASK, GIVE, ("plain", (("read", "b"), ("read", "d"))))
# Nobody reads what the last one writes: as a head it reaches both others, and none of them can be last.
CLOSED = (ASK, GIVE, ("shot", (("read", "d"), ("read", "a"))))
EDGES = ((0, 1, "x", "over"), (1, 0, "y", "seen"), (1, 2, "x", "over"), (2, 0, "z", "missed"))
PRICES = ((1, 5, 4), (0, 2, 0), (3, 3, 3))

# What each argument is in the calls of a module, where the function has no call of its own below.
USUAL = {
    "jobs": {"jobs": JOBS, "job": PAY, "row": "x", "place": 0, "step": 1, "level": "watched", "one": 0, "other": 1,
             "levels": ("shot", "plain", "watched"), "some": (0, 2), "order": (2, 0, 1), "number": 2,
             "new": ("read", "y")},
    "mixes": {"jobs": JOBS, "mix": MIX, "place": 1, "move": 3, "one": 0, "other": 1, "order": (2, 0, 1),
              "some": (0, 2), "number": 9, "thing": MIX},
    "store": {"jobs": ADDS, "mix": (0, 1, 0, 0, 1, 1), "move": 4, "row": "x", "done": (0, 0), "number": 1,
              "thing": (0, 1)},
    "orders": {"jobs": JOBS, "mix": MIX, "order": (2, 1, 0), "edges": EDGES, "number": 1, "thing": (0, 1, 2)},
    "splits": {"jobs": CUT, "head": 0, "place": 0, "many": 2, "split": (0, 0, (1, 2)), "thing": (0, 0, (1, 2))},
    "levels": {"jobs": CUT, "levels": ("shot", "plain", "shot"), "other": ("plain", "shot", "watched"), "job": PAY,
               "place": 0, "prices": PRICES, "some": (0, 2), "thing": ("shot", "plain", "watched")},
}

# More calls, or other ones: argument by argument, in place of the usual ones.
OWN = {
    "renamed": [{"new": "w"}, {"row": "y", "new": "y"}],
    "reads_of": [{}, {"job": NOTE}],
    "distance": [{"one": MIX, "other": OTHER_MIX}],
    "swaps_between": [{"one": MIX, "other": OTHER_MIX}],
    "is_swaps_between": [{"jobs": ADDS, "one": (0, 0, 0, 1, 1, 1), "other": (0, 0, 1, 0, 1, 1), "thing": (2,)}],
    "all_mixes": [{"jobs": ADDS}],
    "seen_at": [{"move": 1}],
    "pinches": [{"jobs": SKEW, "mix": TURN}],
    "is_pinch": [{"jobs": SKEW, "mix": TURN, "thing": (0, 1, 0)}],
    "barred_by": [{}, {"jobs": SKEW, "mix": TURN, "move": 7}],
    "versions_at": [{}, {"row": "x", "move": 5}],
    "is_straight_order": [{"thing": (2, 1, 0)}],
    "is_why": [{"jobs": JOBS, "head": 1, "place": 1, "thing": ()},
               {"jobs": CLOSED, "head": 2, "place": 0, "thing": ((0, 0), (1, 0))}],
    "reached": [{"head": 2, "place": 1}],
    "is_split_below": [{"thing": (0, 0, (1, 2))}],
    "is_step": [{"thing": ("read", "x")}],
    "is_job": [{"thing": PAY}],
    "is_jobs": [{"thing": JOBS}],
    "who_writes": [{}, {"row": "y"}],
}

def calls():
    """Triples (module, name, arguments by name, in the order of the signature)."""
    found = []
    for module, name, arguments in interface.listed():
        for own in OWN.get(name, [{}]):
            values = dict(USUAL[module])
            values.update(own)
            found.append((module, name, {argument: values[argument] for argument in arguments}))
    return found


def listed_deep(value):
    """The value with lists for tuples at every depth."""
    if isinstance(value, (tuple, list)):
        return [listed_deep(part) for part in value]
    return value


def listed_some(value, depth=0):
    """The value with lists for tuples at every other depth."""
    if isinstance(value, (tuple, list)):
        parts = [listed_some(part, depth + 1) for part in value]
        return parts if depth % 2 else tuple(parts)
    return value


def tupled_deep(value):
    if isinstance(value, (tuple, list)):
        return tuple(tupled_deep(part) for part in value)
    return value
