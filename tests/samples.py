"""A call or more of each function that has landed: arguments as tuples, and things that are what they ought to be."""

import interface

PAY = ("plain", (("read", "x"), ("write", "x")))
LOOK = ("shot", (("read", "x"), ("read", "y")))
NOTE = ("plain", (("write", "z"),))
JOBS = (PAY, LOOK, NOTE)
MIX = (0, 1, 0, 1, 0, 2, 1, 2)
OTHER_MIX = (2, 1, 1, 0, 0, 2, 0, 1)

ADDS = (("shot", (("read", "x"), ("write", "x"))), ("shot", (("read", "x"), ("write", "x"))))
SKEW = (("watched", (("read", "x"), ("read", "y"), ("write", "x"))),
        ("watched", (("read", "x"), ("read", "y"), ("write", "y"))))
TURN = (0, 1, 0, 1, 0, 1, 0, 1)

ASK = ("shot", (("read", "a"), ("write", "d")))
GIVE = ("plain", (("write", "a"), ("write", "b")))
CUT = (ASK, GIVE, ("plain", (("read", "b"), ("read", "d"))))
# Nobody reads what the last one writes: as a head it reaches both others, and none of them can be last.
CLOSED = (ASK, GIVE, ("shot", (("read", "d"), ("read", "a"))))
EDGES = ((0, 1, "x", "over"), (1, 0, "y", "seen"), (1, 2, "x", "over"), (2, 0, "z", "missed"))
PRICES = ((1, 5, 4), (0, 2, 0), (3, 3, 3))

NEAR = (("read", "a"), ("write", "a"))
BANK = (("shot", NEAR + (("read", "b"), ("write", "b"))), ("shot", NEAR), ("plain", (("write", "b"), ("write", "c"))),
        ("shot", (("read", "a"), ("read", "b"))))
CUTS = ((2,), (), (1,), ())
BROKEN = (0, 0, 0, 5, 5, 5, 1, 1, 1, 2, 2, 2, 3, 3, 4, 4)
WRITE_SKEW = (("shot", (("read", "x"), ("read", "y"), ("write", "x"))), ("shot", (("read", "x"), ("read", "y"), ("write", "y"))))

HIT = ("shot", (("x", "acc"),), (("read", "x"), ("write", "x")))
PEEK = ("plain", (("x", "acc"), ("y", "acc")), (("read", "x"), ("read", "y")))
MARK = ("plain", (("a", "day"), ("x", "acc")), (("read", "a"), ("write", "x")))
COMPANY = ((1, ("ann", "bob")), (0, ("ann",)), (0, ("bob",)), (1, ("ann", "bob")))

CROSS = (("shot", (("read", "x"), ("write", "y"))), ("shot", (("read", "y"), ("write", "x"))),
         ("plain", (("read", "x"), ("read", "y"))))
TALE = (((None,), (None,), (1, 0)), (("x", (1,)), ("y", (0,))))
LOST = (((None,), (None,)), (("x", (0, 1)),))

HAND = (("shot", (("read", "a"), ("write", "b"))), ("shot", (("write", "a"),)), ("shot", (("read", "b"),)))

TWICE = (("plain", (("range", 1, 1), ("range", 2, 4))), ("plain", (("write", 1), ("write", 2))))
APART = (("shot", (("range", 3, 5),)), ("shot", (("write", 7), ("write", 1))), ("plain", (("range", 0, 1),)))

HELD_UP = (("plain", (("write", "a"), ("write", "b"))), ("plain", (("write", "b"), ("write", "a"))),
           ("shot", (("read", "c"), ("write", "a"))))

STUCK = (("shot", (("write", "a"), ("write", "b"))), ("plain", (("write", "b"), ("read", "c"), ("write", "a"))),
         ("watched", (("read", "a"), ("write", "c"))))

HISTORY = (("commit", ("x",)), ("open", 0), ("commit", ("x", "y")), ("open", 1), ("commit", ("x",)), ("open", 4),
           ("shut", 1), ("commit", ("y",)))
AGAIN = ("plain", (("read", "x"), ("write", "x")))

BOOK = (("c", "d"), ("e",))
WORK = (("set", "ann", "c"), ("set", "ann", "e"), ("log", 2), ("flush",), ("end", "ann"), ("set", "bob", "c"), ("out", 0), ("log", 1))

REQUESTS = "enter shot\nread 0 x\nenter plain\nwrite 1 x -3\ncommit 1\nwrite 0 x 1\nrows\nversions x"

# What each argument is in the calls of a module, where the function has no call of its own below.
USUAL = {
    "jobs": {"jobs": JOBS, "job": PAY, "row": "x", "place": 0, "step": 1, "level": "watched", "one": 0, "other": 1,
             "levels": ("shot", "plain", "watched"), "some": (0, 2), "order": (2, 0, 1), "number": 2,
             "new": ("read", "y")},
    "mixes": {"jobs": JOBS, "mix": MIX, "place": 1, "move": 3, "one": 0, "other": 1, "order": (2, 0, 1),
              "some": (0, 2), "number": 9, "thing": MIX},
    "store": {"jobs": ADDS, "mix": (0, 1, 0, 0, 1, 1), "move": 4, "row": "x", "done": (0, 0), "number": 1,
              "thing": (0, 1)},
    "orders": {"jobs": JOBS, "mix": MIX, "order": (2, 1, 0), "edges": EDGES, "number": 1, "thing": (0, 1, 2)},
    "splits": {"jobs": CUT, "head": 0, "place": 0, "many": 2, "split": (0, 0, (1, 2)), "thing": (0, 0, (1, 2))},
    "levels": {"jobs": CUT, "levels": ("shot", "plain", "shot"), "other": ("plain", "shot", "watched"), "job": PAY,
               "place": 0, "prices": PRICES, "some": (0, 2), "thing": ("shot", "plain", "watched")},
    "changes": {"jobs": BANK, "place": 0, "order": (2, 0, 1, 3), "holding": ((3, 0),), "prices": (5, 2), "cuts": CUTS,
                "mix": BROKEN, "number": 2, "thing": CUTS},
    "fillings": {"programs": (HIT, PEEK, MARK), "lone": ("day",), "company": COMPANY, "jobs": CUT, "many": 4, "table": "day",
                 "levels": ("shot", "shot", "watched"), "program": HIT, "thing": COMPANY},
    "histories": {"jobs": CROSS, "tale": TALE, "mix": (0, 1, 0, 1, 0, 1, 2, 2, 2), "number": 3, "seen": TALE[0],
                  "one": (0, 0, 1, 0, 1, 1, 2, 2, 2), "other": (0, 1, 0, 1, 0, 1, 2, 2, 2), "thing": TALE},
    "sessions": {"jobs": HAND, "ahead": ((1, 2),), "sessions": ((1, 2), (0,)), "rounds": ((0, 1), (2,)), "one": 1, "other": 2,
                 "mix": (0, 1, 1, 2, 2, 0, 0), "split": (0, 0, (1, 2)), "thing": (0, 0, (1, 2))},
    "gaps": {"keys": (2, 9), "number": 6, "low": 4, "high": 11, "cells": ((9,),), "jobs": APART, "thing": ((5, 6),)},
    "ranges": {"jobs": TWICE, "mix": (0, 1, 1, 1, 0, 0), "split": (0, 0, (1,)), "thing": (0, 1, 1, 1, 0, 0)},
    "waits": {"jobs": HELD_UP, "done": (2, 1), "place": 1, "thing": (2, 1)},
    "smooth": {"jobs": STUCK, "thing": ((0, 1), (1, 2))},
    "sweeps": {"history": HISTORY, "number": 0, "row": "x", "sweeps": ((8, "y", 2), (8, "x", 2), (8, "x", 1)),
               "jobs": JOBS, "mix": MIX, "thing": ((8, "x", 2), (1, "x", 0))},
    "blame": {"jobs": (AGAIN, AGAIN), "mix": (0, 1, 0, 0, 1, 1), "levels": ("watched", "plain"), "prices": (1, 5),
              "some": (1,), "thing": (1, 0, (0,))},
    "log": {"pages": BOOK, "deeds": WORK, "number": 8, "disk": (3, (6, -1)), "many": 3, "page": 0, "writer": "ann",
            "thing": WORK},
    "judge": {"claim": ("safe", CUT), "claims": (("safe", ADDS), ("let", ADDS, (0, 1, 0, 0, 1, 1))), "thing": ("safe", CUT)},
    "texts": {"jobs": JOBS, "mix": MIX, "levels": ("shot", "plain"), "split": (0, 1, (2, 3)), "outcome": LOST},
    "desk": {"rows": (("x", 5), ("y", 0)), "text": REQUESTS, "thing": "write 0 x -3"},
}

# More calls, or other ones: argument by argument, in place of the usual ones.
OWN = {
    "renamed": [{"new": "w"}, {"row": "y", "new": "y"}],
    "reads_of": [{}, {"job": NOTE}],
    "distance": [{"one": MIX, "other": OTHER_MIX}],
    "swaps_between": [{"one": MIX, "other": OTHER_MIX}],
    "is_swaps_between": [{"jobs": ADDS, "one": (0, 0, 0, 1, 1, 1), "other": (0, 0, 1, 0, 1, 1), "thing": (2,)}],
    "all_mixes": [{"jobs": ADDS}],
    "seen_at": [{"move": 1}],
    "pinches": [{"jobs": SKEW, "mix": TURN}],
    "is_pinch": [{"jobs": SKEW, "mix": TURN, "thing": (0, 1, 0)}],
    "barred_by": [{}, {"jobs": SKEW, "mix": TURN, "move": 7}],
    "versions_at": [{}, {"row": "x", "move": 5}],
    "is_straight_order": [{"thing": (2, 1, 0)}],
    "is_why": [{"jobs": JOBS, "head": 1, "place": 1, "thing": ()},
               {"jobs": CLOSED, "head": 2, "place": 0, "thing": ((0, 0), (1, 0))}],
    "reached": [{"head": 2, "place": 1}],
    "is_split_below": [{"thing": (0, 0, (1, 2))}],
    "is_step": [{"thing": ("read", "x")}],
    "is_job": [{"thing": PAY}],
    "is_jobs": [{"thing": JOBS}],
    "who_writes": [{}, {"row": "y"}],
    "is_order": [{"thing": (2, 0, 1, 3)}],
    "is_holding": [{"thing": ((3, 0), (3, 1))}],
    "saving_holdings": [{}, {"jobs": WRITE_SKEW}],
    "cheapest_holding": [{}, {"jobs": WRITE_SKEW}],
    "is_joining": [{"thing": (0, 0, 1, (3,))}],
    "is_breaking_mix": [{"thing": BROKEN}],
    "joining": [{}, {"cuts": ((), (), (1,), ())}],
    "are_roads_past": [{"thing": ((3,),)}],
    "is_program": [{"thing": PEEK}],
    "is_bad_company": [{"thing": (COMPANY, (0, 0, (1, 3, 2)))}],
    "bad_company": [{}, {"programs": (HIT, MARK), "lone": ("acc",)}],
    "saving_tables": [{"lone": ()}],
    "is_tale": [{"jobs": ADDS, "thing": LOST}],
    "is_mix_of": [{"thing": (0, 0, 1, 0, 1, 1, 2, 2, 2)}],
    "needs_ring": [{}, {"jobs": ADDS, "tale": LOST}],
    "is_needs_ring": [{"jobs": ADDS, "tale": LOST, "thing": ((0, 2), (1, 0))}],
    "is_tale_swaps": [{"thing": (1, 3)}],
    "givings": [{}, {"jobs": ADDS, "tale": LOST}],
    "rows_for": [{}, {"jobs": ADDS, "seen": ((None,), (0,))}],
    "tale_for": [{}, {"jobs": ADDS, "seen": ((1,), (0,))}],
    "is_ahead": [{"thing": ((0, 1), (1, 2))}],
    "is_short_mix": [{"thing": (0, 1, 1, 0, 0)}],
    "healing_pairs": [{"jobs": WRITE_SKEW, "ahead": ()}],
    "spoiling_pairs": [{"ahead": ()}],
    "rounds_for": [{}, {"jobs": WRITE_SKEW * 2}],
    "is_range_jobs": [{"thing": (("plain", ()), ("shot", ()))}],
    "is_range_split": [{"thing": (0, 0, (1,))}],
    "waits_for": [{"done": (0, 1), "place": 0}],
    "held_rows": [{"done": (0, 1)}],
    "late_pairs": [{"done": (2, 0, 0, 0)}],
    "loss": [{"done": (2, 0)}, {"done": (2, 0, 0, 0)}],
    "is_loss": [{"done": (2, 0), "thing": ("ring", (0, 2))}, {"done": (2, 0, 0, 0), "thing": ("late", 2, "a")}],
    "stumble": [{}, {"jobs": (AGAIN, ("shot", AGAIN[1]))}],
    "is_stumble": [{"thing": (0, 1)}],
    "smooth_levels": [{}, {"jobs": (AGAIN, ("shot", AGAIN[1]))}],
    "is_history": [{"thing": (("open", 0), ("commit", ("x", "y")), ("shut", 0))}],
    "use_of": [{"number": 1}, {"number": 3}, {"number": 2}],
    "is_use_of": [{"number": 1, "thing": ((), 0)}, {"number": 3, "thing": ((("open", 7),), 7)}],
    "seers": [{"number": 1}],
    "fewest_to_shut": [{"number": 1}, {"number": 3}],
    "hurts": [{}, {"levels": ("plain", "shot")}],
    "split_shown": [{}, {"mix": (0, 0, 0, 1, 1, 1)}],
    "tell_first": [{}, {"deeds": WORK[:5]}],
    "breach": [{}, {"deeds": WORK[:7]}],
    "is_breach": [{"thing": (8, (3, (6, -1)))}],
    "is_claim": [{}, {"thing": ("no head", CUT, 2)}, {"thing": ("not lower", CUT, ("shot", "plain", "watched"))},
                 {"thing": ("let", ADDS, (0, 1, 0, 0, 1, 1))}, {"thing": ("comes", ADDS, LOST)}, {"thing": ("never", ADDS, LOST)},
                 {"thing": ("safe by", HAND, ((1, 2),))}, {"thing": ("many", (HIT, MARK), ("day",))}, {"thing": ("ranges", (("plain", ()), ("shot", ())))},
                 {"thing": ("smooth", STUCK)}, {"thing": ("lasting", BOOK, WORK)}, {"thing": ("straight", ADDS, (0, 1, 0, 0, 1, 1))}],
    "paper_against": [{}, {"claim": ("let", ADDS, (0, 1, 0, 0, 1, 1))}, {"claim": ("many", (HIT, PEEK), ())},
                      {"claim": ("lasting", BOOK, WORK)}, {"claim": ("safe by", HAND, ((1, 2),))}],
    "is_paper_against": [{"claim": ("let", ADDS, (0, 1, 0, 0, 1, 1)), "thing": (4, 0)},
                         {"claim": ("no head", CUT, 2), "thing": (2, 0, (1, 0))},
                         {"claim": ("straight", CROSS, (0, 1, 0, 1, 0, 1, 2, 2, 2)), "thing": (0, 1)}],
    "reason_for": [{"claim": ("safe", ADDS)}],
    "is_reason_for": [{"claim": ("safe", ADDS), "thing": ((0, 0, ()), (1, 0, ()))}],
    "read_jobs": [{"text": "shot read x write x\nplain\n"}],
    "read_mix": [{"text": "0 1 0 0"}, {"text": "-\n"}],
    "read_levels": [{"text": "plain shot\n"}],
    "read_split": [{"text": "4 0 2"}],
    "read_outcome": [{"text": "sees - 1\nsees\nrow x 0 1"}],
}


def calls():
    """Triples (module, name, arguments by name, in the order of the signature)."""
    found = []
    for module, name, arguments in interface.listed():
        for own in OWN.get(name, [{}]):
            values = dict(USUAL[module])
            values.update(own)
            found.append((module, name, {argument: values[argument] for argument in arguments}))
    return found


def listed_deep(value):
    """The value with lists for tuples at every depth."""
    if isinstance(value, (tuple, list)):
        return [listed_deep(part) for part in value]
    return value


def listed_some(value, depth=0):
    """The value with lists for tuples at every other depth."""
    if isinstance(value, (tuple, list)):
        parts = [listed_some(part, depth + 1) for part in value]
        return parts if depth % 2 else tuple(parts)
    return value


def tupled_deep(value):
    if isinstance(value, (tuple, list)):
        return tuple(tupled_deep(part) for part in value)
    return value
