"""[3]: each function answers at the bounds: 12 JOBS of 8 STEPS over 8 ROWS, or what its point sets; 4,000 MIXES."""

import unittest

import interface
import oracle
from nosplit import jobs as nj
from nosplit import levels as nl
from nosplit import mixes as nm
from nosplit import orders, splits, store

ROWS = "abcdefgh"


def wide(level, many=12):
    """JOBS that read four ROWS and write four, each in its own turn."""
    found = []
    for place in range(many):
        line = [ROWS[(place * 3 + at) % 8] for at in range(8)]
        found.append((level, tuple(("read", row) for row in line[:4]) + tuple(("write", row) for row in line[2:6])))
    return tuple(found)


def chain(level, many=12):
    """JOBS each of which reads what the next one writes; the first one reads all."""
    first = (level, tuple(("read", row) for row in ROWS[:7]) + (("write", "h"),))
    rest = []
    for place in range(many - 1):
        read, written = ROWS[place % 7], ROWS[(place + 1) % 7]
        more = tuple(("read", row) for row in ROWS if row not in (read, written))
        rest.append((level, (("read", read), ("write", written)) + more))
    return (first,) + tuple(rest)


def readers(level, many=12):
    """JOBS that read all ROWS but one, and write the last one: nobody but the last JOB writes what others read."""
    found = [(level, tuple(("read", row) for row in ROWS[:7]) + (("write", "h"),)) for _ in range(many - 1)]
    return tuple(found) + ((level, tuple(("write", row) for row in ROWS)),)


def mixed(jobs, step):
    """A MIX of them in which the places take turns, one out of so many."""
    left = [len(steps) + 1 for _, steps in jobs]
    mix, place = [], 0
    while any(left):
        while not left[place]:
            place = (place + 1) % len(jobs)
        mix.append(place)
        left[place] -= 1
        place = (place + step) % len(jobs)
    return tuple(mix)


FILES = ("jobs", "mixes", "store", "orders", "splits", "levels")
KINDS = [make(level) for make in (wide, chain, readers) for level in oracle.LEVELS]
MANY_MIXES = ("all_mixes", "how_many_let", "first_let", "all_let", "nth_let")
FEWER = {"whole_mixes": 6, "straight_orders": 6, "nearest_order": 6, "all_splits": 6, "safe_lots": 8, "who_costs": 8,
         "all_enough": 5, "levels_with": 11, "raised_by": 11}


def arguments_for(name, jobs):
    mix, other = mixed(jobs, 1), mixed(jobs, 5)
    head, place = [(head, step) for head in range(len(jobs)) for step, _ in oracle.reads(jobs, head)][-1]
    values = {"jobs": jobs, "job": jobs[0], "row": "a", "place": len(jobs) - 1, "step": 7, "level": "shot", "one": 0,
              "other": len(jobs) - 1, "levels": ("shot",) * len(jobs), "some": tuple(range(0, len(jobs), 2)),
              "order": tuple(reversed(range(len(jobs)))), "number": 0, "new": ("read", "zz"), "mix": mix,
              "move": len(mix) // 2, "done": mix[:1], "thing": (head, place, (0,)), "head": head, "many": 4,
              "edges": orders.edges(jobs, mix), "split": splits.split_in(jobs), "prices": ((3, 1, 2),) * len(jobs)}
    if name in ("distance", "swaps_between", "is_swaps_between"):
        values.update({"one": mix, "other": other})
    if name == "lesser_of":
        values["other"] = ("plain",) * len(jobs)
    if name in ("nth_order", "surely_ahead", "either_way"):
        values["mix"] = nm.whole_mix(jobs, values["order"])
    if name == "renamed":
        values["new"] = "zz"
    if name in ("split_at", "fewest_others", "let_between", "reached", "is_why"):
        values["place"] = place
    if name == "all_rings":
        values["edges"] = [(one, to, "x", "over") for one in range(6) for to in range(6) if one != to]
    values["edges"] = tuple(sorted(values["edges"]))
    return values


class Wide(unittest.TestCase):
    def test_each_function_answers(self):
        names = interface.all_names()
        for at, jobs in enumerate(KINDS):
            for module, name, arguments in interface.listed():
                if module not in FILES:
                    continue
                if name in MANY_MIXES or (name in ("split_mix", "split_ring") and splits.safe(jobs)):
                    continue
                if name == "seen_at":
                    continue
                part = jobs[:FEWER.get(name, 12)]
                if name in ("split_mix", "split_ring"):
                    part = jobs
                values = arguments_for(name, part)
                with self.subTest(name=name, kind=at):
                    names[name](*[values[argument] for argument in arguments])

    def test_seen_at(self):
        for jobs in KINDS:
            mix = mixed(jobs, 1)
            seen = store.seen_by(jobs, mix)
            for place in range(len(jobs)):
                told = [store.seen_at(jobs, mix, oracle.moves(jobs, mix, place)[step]) for step, _ in oracle.reads(jobs, place)]
                self.assertEqual(tuple(told), seen[place])

    def test_against_the_oracle(self):
        for jobs in KINDS:
            for step in (1, 5, 7):
                mix = mixed(jobs, step)
                self.assertEqual(store.outcome(jobs, mix), oracle.outcome(jobs, mix))
                self.assertEqual(orders.edges(jobs, mix), tuple(sorted(oracle.edges(jobs, mix))))
                told = [(move, bar[0]) for move, bar in enumerate(oracle.bars(jobs, mix)) if bar]
                self.assertEqual(store.barred_moves(jobs, mix), told)
                self.assertEqual(store.pinches(jobs, mix), oracle.pinches(jobs, mix))

    def test_swaps(self):
        for jobs in KINDS:
            one, other = mixed(jobs, 1), nm.whole_mix(jobs, tuple(reversed(range(12))))
            swaps = nm.swaps_between(jobs, one, other)
            self.assertEqual(len(swaps), nm.distance(jobs, one, other))
            self.assertTrue(nm.is_swaps_between(jobs, one, other, swaps))

    def test_levels_hold(self):
        for jobs in KINDS:
            low = nl.least_levels(jobs)
            self.assertTrue(nl.is_enough(jobs, low))
            for place in range(1, 12, 4):
                split = nl.split_below(jobs, place)
                self.assertEqual(split is None, low[place] == "plain")
                if split is not None:
                    self.assertTrue(nl.is_split_below(jobs, place, split))

    def test_reaches_hold(self):
        for jobs in KINDS:
            for head in range(12):
                for place, _ in oracle.reads(jobs, head):
                    shut = splits.is_why(jobs, head, place, splits.reached(jobs, head, place))
                    split = splits.split_at(jobs, head, place)
                    self.assertEqual(shut, split is None)
                    if split is not None:
                        self.assertTrue(oracle.is_split(jobs, *split))

    def test_orders_of_twelve(self):
        jobs = tuple(("plain", (("read", ROWS[place % 8]),)) for place in range(12))
        mix = mixed(jobs, 1)
        self.assertEqual(orders.how_many_orders(jobs, mix), 479001600)
        self.assertEqual(orders.nth_order(jobs, mix, 479001599), tuple(reversed(range(12))))
        self.assertEqual(len(orders.either_way(jobs, mix)), 66)


class Mixes(unittest.TestCase):
    # 3,432 MIXES of two JOBS, 2,520 of four, 1,680 of three, 720 of six.
    SOME = [(("shot", tuple(("read", row) for row in "abcdef")), ("plain", tuple(("write", row) for row in "abcdef"))),
            tuple(("watched", ((("read", "write")[place % 2], "ab"[place // 2]),)) for place in range(4)),
            tuple(("shot", (("read", "abc"[place]), ("write", "bca"[place]))) for place in range(3)),
            tuple(("plain", ()) for place in range(6))]

    def test_all_gone_through(self):
        for jobs, many in zip(self.SOME, (3432, 2520, 1680, 720)):
            every = nm.all_mixes(jobs)
            self.assertEqual((len(every), nm.how_many(jobs)), (many, many))
            self.assertEqual(every, sorted(set(every)))
            let = store.all_let(jobs)
            self.assertEqual(let, [mix for mix in every if store.is_let(jobs, mix)])
            self.assertEqual(store.how_many_let(jobs, ()), len(let))
            self.assertEqual(store.first_let(jobs, ()), let[0])
            self.assertEqual(store.nth_let(jobs, len(let) - 1), let[-1])
            self.assertEqual(store.how_many_let(jobs, (1,)), len([mix for mix in let if mix[0] == 1]))


class Beyond(unittest.TestCase):
    def test_somewhat_beyond(self):
        jobs = wide("shot", 14)
        self.assertEqual(len(nl.least_levels(jobs)), 14)
        self.assertEqual(len(orders.nearest_order(jobs[:8], mixed(jobs[:8], 3))), 8)
        letters = "abcdefghijklmnopqrstuvwxyz"
        rows = [("plain", (("read", "x" + one + other),)) for one in "zab" for other in letters]
        named = [steps[0][1] for _, steps in nj.lettered(tuple(rows))]
        self.assertEqual(named, list(letters) + [one + other for one in "ab" for other in letters])


if __name__ == "__main__":
    unittest.main()
