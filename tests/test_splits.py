"""[8]: nosplit/splits.py, and its guarantees (those over all MIXES: test_safety.py)."""

import unittest
from itertools import permutations, product

import oracle
from nosplit import jobs as nj
from nosplit import orders, splits, store
from nosplit.errors import NoNumber, Unfit
from samples import CLOSED, CUT, JOBS
from support import Case, family, small_jobs

# Four, and two chains between which a head can choose.
RING = (("plain", (("read", "a"), ("write", "c"))), ("shot", (("write", "a"), ("write", "b"))),
        ("watched", (("read", "b"), ("read", "d"))), ("plain", (("read", "b"), ("write", "d"), ("read", "c"))))
# A watched head; one marks, another one answers, and those in between are not watched.
PINCH = (("watched", (("read", "a"), ("read", "e"), ("write", "b"))), ("watched", (("write", "a"), ("write", "c"))),
         ("plain", (("read", "c"), ("write", "d"))), ("watched", (("read", "d"), ("read", "b"))),
         ("shot", (("write", "e"), ("write", "d"))))


def some_jobs():
    found = list(small_jobs()) + [CUT, CLOSED, JOBS, RING, PINCH]
    for levels in oracle.all_levels(3):
        found.append(nj.with_levels(CUT, levels))
    for at, levels in enumerate(product(oracle.LEVELS, repeat=4)):
        if at % 4 == 1:
            found.append(nj.with_levels(RING, levels))
    for at, levels in enumerate(product(("shot", "watched"), repeat=5)):
        if at % 3 == 0:
            found.append(nj.with_levels(PINCH, levels))
    for at, steps in enumerate(family("abc", 2, 3)):
        if at % 9 == 4:
            found.append(oracle.at_levels(steps, oracle.all_levels(3)[at % 27]))
            found.append(oracle.at_levels(steps, ("watched",) * 3))
    return found


SOME = some_jobs()


def reads(jobs):
    return [(head, step) for head in range(len(jobs)) for step, _ in oracle.reads(jobs, head)]


def others_let(jobs, head, place):
    level, steps = jobs[head]
    kept = {row for kind, row in (steps[:place] if level == "plain" else steps) if kind == "write"}
    return [other for other in range(len(jobs)) if other != head and not oracle.rows(jobs, other, "write") & kept]


def is_reach(jobs, head, place, pairs):
    """Whether these pairs are a REACH, and whether it is shut."""
    let, level, steps = others_let(jobs, head, place), jobs[head][0], jobs[head][1]
    watched = [other for other in let if level == "watched" == jobs[other][0]]
    marks = [other for other in watched if oracle.rows(jobs, other, "write") & oracle.rows(jobs, head, "read")]
    answers = [other for other in watched if oracle.rows(jobs, other, "read") & oracle.rows(jobs, head, "write")]
    needed = {(job, int(job in marks)) for job in let if steps[place][1] in oracle.rows(jobs, job, "write")}
    needed |= {(job, int(job in marks or mark == 1)) for front, mark in pairs for job in let
               if oracle.do_clash(jobs, front, job)}
    fits = all(job in let for job, _ in pairs) and all(
        pair in pairs or (pair[1] == 1 and pair[0] in answers) for pair in needed)
    lasts = [job for job in let if oracle.rows(jobs, job, "read") & oracle.rows(jobs, head, "write")
             or level == "plain" and any(oracle.clash(a, b) for a in steps[place + 1:] for b in jobs[job][1])]
    return fits, not any(job in lasts for job, _ in pairs)


class Found(Case):
    def test_against_the_oracle(self):
        for jobs in SOME:
            every = oracle.splits(jobs)
            self.assertEqual([split for split in every if splits.is_split(jobs, split)], every)
            for many in range(1, 5):
                self.assertEqual(splits.all_splits(jobs, many), oracle.splits(jobs, many))
            self.assertIs(splits.safe(jobs), not every)
            self.assertEqual(splits.split_heads(jobs), tuple(sorted({head for head, _, _ in every})))
            by_length = sorted(every, key=lambda split: (len(split[2]), split))
            self.assertEqual(splits.least_split(jobs), by_length[0] if every else None)
            self.check_one(splits.split_in(jobs), every)
            for head, place in reads(jobs):
                with_these = [split for split in by_length if split[:2] == (head, place)]
                self.check_one(splits.split_at(jobs, head, place), with_these)
                fewest = len(with_these[0][2]) if with_these else None
                self.assertEqual(splits.fewest_others(jobs, head, place), fewest)
                self.assertEqual(splits.let_between(jobs, head, place), tuple(others_let(jobs, head, place)))
                self.check_neighbours(jobs, [split for split in with_these if len(split[2]) == fewest])

    def check_one(self, told, every):
        if every:
            self.assertIn(told, every)
        else:
            self.assertIsNone(told)

    def check_neighbours(self, jobs, shortest):
        # A guarantee: of a SPLIT with the fewest others only neighbours among others clash.
        for _, _, others in shortest:
            for at, one in enumerate(others):
                for other in others[at + 2:]:
                    self.assertFalse(oracle.do_clash(jobs, one, other))

    def test_is_split(self):
        for jobs in SOME:
            if len(jobs) <= 3:
                places, every = range(-1, len(jobs) + 1), oracle.splits(jobs)
                tuples = [others for many in range(4) for others in product(places, repeat=many)]
                for head, place, others in product(places, range(-1, 4), tuples):
                    thing = (head, place, others)
                    self.assertIs(splits.is_split(jobs, thing), thing in every)

    def check_pair(self, head, other, place, wanted):
        self.assertIs(splits.is_split((head, other), (0, place, (1,))), wanted)

    def test_each_condition_for_a_shot_head(self):
        head = ("shot", (("read", "x"), ("write", "y")))
        for steps, wanted in (((("write", "x"), ("read", "y")), True),
                              ((("read", "x"), ("read", "y")), False),
                              ((("write", "x"),), False),
                              ((("read", "y"), ("write", "x"), ("write", "y")), False)):
            for level in oracle.LEVELS:
                self.check_pair(head, (level, steps), 0, wanted)
        both = (("write", "x"), ("read", "y"))
        self.check_pair(("watched", head[1]), ("shot", both), 0, True)
        self.check_pair(("watched", head[1]), ("watched", both), 0, False)
        self.check_pair(("plain", head[1]), ("watched", both), 0, True)

    def test_each_condition_for_a_plain_head(self):
        back = ("plain", (("write", "x"), ("write", "z")))
        # 3: a STEP behind place clashes, not one ahead of it.
        self.check_pair(("plain", (("read", "x"), ("read", "z"))), back, 0, True)
        self.check_pair(("plain", (("read", "x"), ("read", "z"))), back, 1, False)
        self.check_pair(("shot", (("read", "x"), ("read", "z"))), back, 0, False)
        self.check_pair(("plain", (("read", "x"), ("write", "x"))), back, 0, True)
        # 4: what it writes ahead of place, not what it writes behind it.
        for ahead, wanted in (("z", False), ("w", True)):
            self.check_pair(("plain", (("write", ahead), ("read", "x"), ("read", "v"))),
                            ("plain", (("write", "x"), ("write", "v"), ("write", "z"))), 1, wanted)
        # 3 takes what is read of any write of head, also of one ahead of place.
        self.check_pair(("plain", (("write", "w"), ("read", "x"))), ("plain", (("write", "x"), ("read", "w"))), 1, True)

    def test_marks_and_answers(self):
        self.assertIs(splits.is_split(PINCH, (0, 0, (1, 2, 3))), False)
        self.assertIs(splits.is_split(nj.with_level(PINCH, 3, "shot"), (0, 0, (1, 2, 3))), True)
        self.assertIs(splits.is_split(nj.with_level(PINCH, 1, "shot"), (0, 0, (1, 2, 3))), True)
        self.assertIs(splits.is_split(nj.with_level(PINCH, 0, "shot"), (0, 0, (1, 2, 3))), True)
        self.assertIs(splits.is_split(PINCH, (0, 1, (4, 3))), True)
        # 3 answers: it is reached without a mark by way of 4 and 2, and left out behind 1, which marks.
        self.assertEqual(splits.reached(PINCH, 0, 1), ((1, 1), (2, 0), (2, 1), (3, 0), (4, 0), (4, 1)))
        self.assertEqual(splits.reached(PINCH, 0, 0), ((1, 1), (2, 1), (4, 1)))
        self.assertIs(splits.is_why(PINCH, 0, 0, ((1, 1), (2, 1), (4, 1))), True)
        self.assertIs(splits.is_why(PINCH, 0, 0, ((1, 1), (2, 1), (3, 1), (4, 1))), False)


class Refusals(Case):
    FUNCTIONS = (splits.split_at, splits.fewest_others, splits.let_between, splits.reached)

    def test_numbers_and_reads(self):
        for function in self.FUNCTIONS:
            self.no_numbers(function, 3, lambda number: (CUT, number, 0))
            self.no_numbers(function, 2, lambda number: (CUT, 0, number))
            self.refuses(NoNumber(3), function, CUT, 3, 9)
            self.refuses(Unfit(), function, CUT, 0, 1)
            self.refuses(Unfit(), function, CUT, 1, 0)
            self.refuses(NoNumber(0), function, (), 0, 0)

    def test_is_why_refuses_ahead_of_thing(self):
        for thing in ((), None, [1], ((9, 9),)):
            self.refuses(NoNumber(3), splits.is_why, CUT, 3, 9, thing)
            self.refuses(NoNumber(-1), splits.is_why, CUT, 0, -1, thing)
            self.refuses(NoNumber(2), splits.is_why, CUT, 0, 2, thing)
            self.refuses(Unfit(), splits.is_why, CUT, 0, 1, thing)

    def test_what_is_no_split(self):
        for split in ((0, 0, ()), (0, 0, (2,)), (0, 1, (1, 2)), (9, 0, (1,)), (0, 9, (1,)), (0, 0, (9,)), (-1, 0, (1,)),
                      (0, -2, (1, 2)), (0, 0, (1, -1)), (0, 0, (1, 2, 1)), [0, 0, [2]]):
            self.refuses(Unfit(), splits.split_mix, CUT, split)
            self.refuses(Unfit(), splits.split_ring, CUT, split)
        self.assertEqual(splits.split_ring(CUT, [0, 0, [1, 2]]), (0, 1, 2))
        self.assertEqual(splits.split_mix(CUT, [0, 0, [1, 2]]), (0, 1, 1, 1, 2, 2, 2, 0, 0))


class Reaches(Case):
    def test_the_least_one(self):
        for jobs in SOME:
            for head, place in reads(jobs):
                told = splits.reached(jobs, head, place)
                self.assertEqual(told, tuple(sorted(set(told))))
                fits, shut = is_reach(jobs, head, place, told)
                self.assertTrue(fits)
                # A guarantee: no SPLIT with these exactly if the least REACH is shut.
                self.assertEqual(shut, splits.split_at(jobs, head, place) is None)
                self.assertIs(splits.is_why(jobs, head, place, told), shut)

    def test_all_sets_of_pairs(self):
        for jobs in SOME:
            if not 2 <= len(jobs) <= 3:
                continue
            for head, place in reads(jobs):
                pairs = [(job, mark) for job in range(len(jobs)) for mark in (0, 1)]
                sets = [tuple(pair for at, pair in enumerate(pairs) if code >> at & 1) for code in range(1 << len(pairs))]
                told = [some for some in sets if splits.is_why(jobs, head, place, some)]
                self.assertEqual(told, [some for some in sets if is_reach(jobs, head, place, some) == (True, True)])
                reaches = [set(some) for some in sets if is_reach(jobs, head, place, some)[0]]
                least = set(splits.reached(jobs, head, place))
                self.assertIn(least, reaches)
                self.assertTrue(all(least <= some for some in reaches))
                self.assertEqual(bool(told), splits.split_at(jobs, head, place) is None)

    def test_what_is_no_reach(self):
        shut = ((0, 0), (1, 0))
        self.assertIs(splits.is_why(CLOSED, 2, 0, shut), True)
        self.assertIs(splits.is_why(CLOSED, 2, 0, shut + ((1, 1),)), False)
        self.assertIs(splits.is_why(CLOSED, 2, 0, ((0, 0), (0, 1), (1, 0), (1, 1))), True)
        for thing in ((), shut[:1], shut[1:], shut[::-1], shut + shut, shut + ((2, 0),), shut + ((1, 2),), ((0, 0), (1, -1)),
                      list(shut), (list(shut[0]), shut[1]), ((0, False), (1, 0)), ((False, 0), (1, 0)), shut + ((5, 0),),
                      shut + (None,), ((0, 0, 0), (1, 0)), shut + ((1,),), ("00", (1, 0)), None, 0):
            self.assertIs(splits.is_why(CLOSED, 2, 0, thing), False)


class Shown(Case):
    def test_split_mixes(self):
        for jobs in SOME:
            for split in oracle.splits(jobs):
                head, place, others = split
                outside = [job for job in range(len(jobs)) if job not in others + (head,)]
                wanted = oracle.whole(jobs, outside) + (head,) * (place + 1) + oracle.whole(jobs, others)
                wanted += (head,) * (len(jobs[head][1]) - place)
                mix = splits.split_mix(jobs, split)
                self.assertEqual(mix, wanted)
                ring = splits.split_ring(jobs, split)
                way = (head,) + others
                self.assertEqual(min(ring), ring[0])
                self.assertIn(ring, [way[at:] + way[:at] for at in range(len(way))])
                # A guarantee: the split MIX is let and not straight, with EDGES from each one to the next one.
                self.assertTrue(store.is_let(jobs, mix))
                self.assertFalse(orders.is_straight(jobs, mix))
                self.assertTrue(orders.is_ring(orders.edges(jobs, mix), ring))


class Lots(Case):
    def test_safe_lots_and_spoilers(self):
        for jobs in SOME:
            places = range(len(jobs))
            sets = [tuple(place for place in places if code >> place & 1) for code in range(1 << len(jobs))]
            fine = [some for some in sets if not oracle.splits(nj.part_of(jobs, some))]
            greatest = sorted(some for some in fine if not any(set(some) < set(other) for other in fine))
            self.assertEqual(splits.safe_lots(jobs), greatest)
            spoil = [place for place in places if not oracle.splits(nj.without_job(jobs, place))]
            self.assertEqual(splits.spoilers(jobs), tuple(spoil))
            # Guarantees: some of JOBS that are safe are safe; who writes nothing heads only if it is plain.
            self.assertTrue(all(some in fine for other in fine for some in sets if set(some) <= set(other)))
            if not oracle.splits(jobs):
                self.assertEqual(spoil, list(places))
            for head in splits.split_heads(jobs):
                self.assertTrue(jobs[head][0] == "plain" or oracle.writes(jobs, head))

    def test_no_jobs(self):
        self.assertEqual((splits.safe(()), splits.split_in(()), splits.least_split(())), (True, None, None))
        self.assertEqual((splits.split_heads(()), splits.all_splits((), 4), splits.spoilers(())), ((), [], ()))
        self.assertEqual((splits.safe_lots(()), splits.safe_lots((("plain", ()),))), ([()], [(0,)]))
        self.assertIs(splits.is_split((), (0, 0, (1,))), False)

    def test_in_another_order_and_with_other_names(self):
        # Guarantees of [4].
        for jobs in SOME:
            safe = splits.safe(jobs)
            self.assertEqual(splits.safe(nj.lean(jobs)), safe)
            self.assertEqual(splits.safe(nj.lettered(jobs)), safe)
            self.assertEqual(all(splits.safe(nj.part_of(jobs, lot)) for lot in nj.lots(jobs)), safe)
            for order in list(permutations(range(len(jobs))))[:24]:
                self.assertEqual(splits.safe(nj.turned(jobs, order)), safe)
            for row in nj.rows_of(jobs):
                self.assertEqual(splits.safe(nj.renamed(jobs, row, "other")), safe)


if __name__ == "__main__":
    unittest.main()
