"""[12]: nosplit/histories.py, and its guarantees."""

import unittest
from itertools import combinations, permutations, product

import oracle
from nosplit import histories
from nosplit import mixes as nm
from nosplit.errors import Barred, CanNot, NoNumber, Unfit
from support import Case, Lists, family, random_jobs, small_jobs

nh = Lists(histories)

CROSS = (("shot", (("read", "x"), ("write", "y"))), ("shot", (("read", "y"), ("write", "x"))),
         ("plain", (("read", "x"), ("read", "y"))))
TALE, SKEW = (((None,), (None,), (1, 0)), (("x", (1,)), ("y", (0,)))), (0, 1, 0, 1, 0, 1, 2, 2, 2)
AGAIN = ("shot", (("read", "x"), ("write", "x")))
TWICE, LOST = (AGAIN, AGAIN), (((None,), (None,)), (("x", (0, 1)),))
WATCHED = (("watched", (("read", "x"), ("read", "y"), ("write", "x"))), ("watched", (("read", "x"), ("read", "y"), ("write", "y"))))
# 12,870 MIXES.
WIDE = (("watched", tuple(("read", row) for row in "abcdefg")), ("plain", tuple(("write", row) for row in "abcdefg")))


def some_jobs():
    found = [jobs for jobs in small_jobs() if len(oracle.mixes(jobs)) <= 200]
    found += [CROSS[:2], TWICE, WATCHED, (("plain", ()), ("shot", ())), (("shot", ()), AGAIN)]
    for at, steps in enumerate(family("abc", 2, 2)):
        found.append(oracle.at_levels(steps, oracle.all_levels(2)[at * 2 % 9]))
    short = [jobs for jobs in random_jobs(51, 60, "ab", 3, 2) if sum(len(steps) for _, steps in jobs) <= 4]
    for levels in oracle.all_levels(3)[::5]:
        found.append(oracle.at_levels(((("read", "x"),), (("write", "x"),), (("write", "x"),)), levels))
    return found + short[:14] + random_jobs(52, 25, "ab", 2, 3)


SOME = some_jobs()


def is_watched(jobs):
    return any(level == "watched" for level, _ in jobs)


def all_seen(jobs):
    told = []
    for place in range(len(jobs)):
        ways = [[None] + [other for other in range(len(jobs)) if other != place and row in oracle.rows(jobs, other, "write")]
                for _, row in oracle.reads(jobs, place)]
        told.append(list(product(*ways)))
    return list(product(*told))


def all_rows(jobs):
    written = sorted({row for place in range(len(jobs)) for row in oracle.rows(jobs, place, "write")})
    lines = [permutations([place for place in range(len(jobs)) if row in oracle.rows(jobs, place, "write")]) for row in written]
    return [tuple(zip(written, told)) for told in product(*lines)]


def all_tales(jobs):
    return list(product(all_seen(jobs), all_rows(jobs)))


def told_by(jobs):
    """For each TALE that comes the ascending list of its MIXES."""
    found = {}
    for mix in oracle.mixes(jobs):
        if oracle.is_let(jobs, mix):
            found.setdefault(oracle.outcome(jobs, mix), []).append(mix)
    return found


def needs(jobs, tale):
    """The table of the document, row by row."""
    seen, found = tale[0], set()
    rows = dict(tale[1])

    def commit(place):
        return place, len(jobs[place][1])

    def holds_to(place, step):
        return (place, step) if jobs[place][0] == "plain" else (place, 0)

    for place, (_, steps) in enumerate(jobs):
        found |= {((place, step), (place, step + 1)) for step in range(len(steps))}
        for (step, row), one in zip(oracle.reads(jobs, place), seen[place]):
            if one is not None:
                found.add((commit(one), holds_to(place, step)))
            behind = list(rows.get(row, ()))
            behind = behind[behind.index(one) + 1:] if one is not None else behind
            if behind and behind[0] != place:
                found.add((holds_to(place, step), commit(behind[0])))
    for row, line in rows.items():
        for one, other in zip(line, line[1:]):
            step = [number for number, written in oracle.writes(jobs, other) if written == row][0]
            found.add((commit(one), holds_to(other, step)))
    return tuple(sorted(found))


def number_of(jobs, mix, spot):
    return oracle.moves(jobs, mix, spot[0])[spot[1]]


def spots(jobs):
    return [(place, step) for place, (_, steps) in enumerate(jobs) for step in range(len(steps) + 1)]


class Tales(Case):
    def test_all_tales(self):
        for jobs in SOME:
            coming, every = told_by(jobs), all_tales(jobs)
            self.assertLessEqual(set(coming), set(every))
            for tale in every[::max(1, len(every) // 60)] + list(coming):
                with self.subTest(jobs=jobs, tale=tale):
                    self.assertIs(nh.is_tale(jobs, tale), True)
                    self.assertEqual(nh.needs(jobs, tale), needs(jobs, tale))
                    mixes = coming.get(tale, [])
                    self.assertIs(nh.comes(jobs, tale), bool(mixes))
                    self.assertEqual(nh.mix_of(jobs, tale), mixes[0] if mixes else None)
                    self.check_ring(jobs, tale, mixes)
                    if is_watched(jobs):
                        self.check_watched(jobs, tale)
                    else:
                        self.check_counts(jobs, tale, mixes)

    def check_ring(self, jobs, tale, mixes):
        ring = nh.needs_ring(jobs, tale)
        # A guarantee: it comes exactly if no tuple of SPOTS goes round by NEEDS.
        if not is_watched(jobs):
            self.assertEqual(ring is None, bool(mixes))
        if ring is not None:
            pairs = needs(jobs, tale)
            self.assertTrue(len(ring) == len(set(ring)) >= 2)
            self.assertTrue(all(pair in pairs for pair in zip(ring, ring[1:] + ring[:1])))
            self.assertIs(nh.is_needs_ring(jobs, tale, ring), True)
            self.assertIs(nh.is_needs_ring(jobs, tale, ring[1:] + ring[:1]), True)
            self.assertIs(nh.is_needs_ring(jobs, tale, ring[:-1]), False)
            self.assertIs(nh.is_needs_ring(jobs, tale, ring + ring), False)
            self.assertEqual(nh.needs_ring([list(job) for job in jobs], tale), ring)

    def check_watched(self, jobs, tale):
        for function in (nh.how_many_of, nh.surely_beside, nh.maybe_beside, nh.surely_first):
            self.refuses(Unfit(), function, jobs, tale)
        self.refuses(Unfit(), nh.nth_of, jobs, tale, -1)

    def check_counts(self, jobs, tale, mixes):
        self.assertEqual(nh.how_many_of(jobs, tale), len(mixes))
        for number in range(0, len(mixes), max(1, len(mixes) // 7)):
            self.assertEqual(nh.nth_of(jobs, tale, number), mixes[number])
        for number in (len(mixes), -1, True):
            self.refuses(NoNumber(number), nh.nth_of, jobs, tale, number)
        if not mixes:
            for function in (nh.surely_beside, nh.maybe_beside, nh.surely_first):
                self.refuses(CanNot(), function, jobs, tale)
            return
        beside = [[pair for pair in combinations(range(len(jobs)), 2) if oracle.beside(jobs, mix, *pair)] for mix in mixes]
        every = combinations(range(len(jobs)), 2)
        self.assertEqual(nh.maybe_beside(jobs, tale), tuple(sorted(set(pair for some in beside for pair in some))))
        self.assertEqual(nh.surely_beside(jobs, tale), tuple(pair for pair in every if all(pair in some for some in beside)))
        pairs = [pair for pair in product(spots(jobs), repeat=2) if pair[0][0] != pair[1][0]]
        self.assertEqual(nh.surely_first(jobs, tale), tuple(
            (one, other) for one, other in pairs
            if all(number_of(jobs, mix, one) < number_of(jobs, mix, other) for mix in mixes)))

    def test_mixes_keep_needs(self):
        # A guarantee: MIXES are of it exactly if of all NEEDS one stands ahead of other in them.
        for jobs in SOME:
            coming, mixes = told_by(jobs), oracle.mixes(jobs)
            for tale in list(coming)[:6] + all_tales(jobs)[::29]:
                pairs = needs(jobs, tale)
                for mix in mixes:
                    keeps = all(number_of(jobs, mix, one) < number_of(jobs, mix, other) for one, other in pairs)
                    if not is_watched(jobs):
                        self.assertEqual(keeps, mix in coming.get(tale, []))
                    self.assertIs(nh.is_mix_of(jobs, tale, mix), mix in coming.get(tale, []))

    def test_tale_by(self):
        for jobs in SOME:
            for mix in oracle.mixes(jobs)[::3]:
                barred = [move for move, bar in enumerate(oracle.bars(jobs, mix)) if bar]
                if barred:
                    self.refuses(Barred(barred[0]), nh.tale_by, jobs, mix)
                else:
                    self.assertEqual(nh.tale_by(jobs, mix), oracle.outcome(jobs, mix))

    def test_what_is_no_tale(self):
        seen, rows = TALE
        self.assertIs(nh.is_tale(CROSS, TALE), True)
        for thing in (None, (), (seen,), (seen, rows, ()), [seen, rows], (list(seen), rows), (seen, list(rows)), (rows, seen),
                      (seen[:2], rows), (seen + ((),), rows), (((1,), (None,), (1, 0)), (("x", (0,)), ("y", (0,)))),
                      (((True,), (None,), (1, 0)), rows), (((0,), (None,), (1, 0)), rows), (((2,), (None,), (1, 0)), rows),
                      (((None,), (None,), (0, 0)), rows), (((None,), (None,), (1, 1)), rows), (((9,), (None,), (1, 0)), rows),
                      (((-1,), (None,), (1, 0)), rows), (((), (None,), (1, 0)), rows), (((None, None), (None,), (1, 0)), rows),
                      ((None, (None,), (1, 0)), rows), (seen, rows[::-1]), (seen, rows[:1]), (seen, rows + rows[1:]),
                      (seen, (("x", (1, 1)), ("y", (0,)))), (seen, (("x", ()), ("y", (0,)))), (seen, (("x", (0,)), ("y", (0,)))),
                      (seen, (("x", (True,)), ("y", (0,)))), (seen, (("x", [1]), ("y", (0,)))), (seen, (["x", (1,)], ("y", (0,)))),
                      (seen, (("x", 1), ("y", (0,)))), (seen, (("x", (1,), 0), ("y", (0,)))), (seen, (("x", (1,)), ("z", (0,))))):
            self.assertIs(nh.is_tale(CROSS, thing), False)
        self.assertIs(nh.is_tale((), ((), ())), True)
        self.assertIs(nh.is_tale(TWICE, LOST), True)
        self.assertIs(nh.is_tale(TWICE, (((None,), (None,)), (("x", (0, 0)),))), False)
        self.assertIs(nh.is_tale(TWICE, (((0,), (None,)), (("x", (0, 1)),))), False)

    def test_a_row_that_nobody_writes(self):
        jobs = (("plain", (("read", "q"),)), ("shot", (("read", "q"), ("write", "x"))))
        tale = (((None,), (None,)), (("x", (1,)),))
        self.assertEqual(all_tales(jobs), [tale])
        self.assertEqual((nh.comes(jobs, tale), nh.how_many_of(jobs, tale)), (True, 10))
        self.assertEqual(nh.rows_for(jobs, ((None,), (None,))), [(("x", (1,)),)])
        self.assertEqual(nh.needs(jobs, tale), (((0, 0), (0, 1)), ((1, 0), (1, 1)), ((1, 1), (1, 2))))

    def test_no_jobs(self):
        tale = ((), ())
        self.assertEqual((nh.needs((), tale), nh.comes((), tale), nh.mix_of((), tale), nh.tale_by((), ())), ((), True, (), tale))
        self.assertEqual((nh.how_many_of((), tale), nh.nth_of((), tale, 0), nh.needs_ring((), tale)), (1, (), None))
        self.assertEqual((nh.surely_beside((), tale), nh.maybe_beside((), tale), nh.surely_first((), tale)), ((), (), ()))
        self.assertEqual((nh.givings((), tale), nh.highest_givings((), tale)), (((),), ((),)))
        self.assertEqual((nh.rows_for((), ()), nh.tale_for((), ())), ([()], tale))
        self.assertEqual((nh.same_tale((), (), ()), nh.tale_swaps((), (), ()), nh.is_tale_swaps((), (), (), ())), (True, (), True))
        bare = (("shot", ()), ("plain", ()))
        self.assertEqual(nh.maybe_beside(bare, (((), ()), ())), ())
        self.assertEqual(nh.how_many_of(bare, (((), ()), ())), 2)


class Rings(Case):
    def test_all_tuples_of_spots(self):
        for jobs, tale in ((TWICE, LOST), (CROSS[:2], (((1,), (0,)), TALE[1])), (TWICE, (((1,), (0,)), (("x", (0, 1)),)))):
            pairs = needs(jobs, tale)
            every = spots(jobs) + [(2, 0), (0, 9)]
            for many in range(5):
                for thing in product(every, repeat=many):
                    wanted = len(set(thing)) == many >= 2 and all(pair in pairs for pair in zip(thing, thing[1:] + thing[:1]))
                    self.assertIs(nh.is_needs_ring(jobs, tale, thing), wanted)

    def test_what_is_no_ring(self):
        for thing in (None, (), ((0, 2),), [(0, 2), (1, 0)], ([0, 2], (1, 0)), ((0, 2), (True, 0)), ((0, 2), (1, False)),
                      ((0, 2), (1, 0), (0, 2)), ((0, 2), (1, 0, 0)), ((0, 2), None), (0, 2), "02"):
            self.assertIs(nh.is_needs_ring(TWICE, LOST, thing), False)
        self.assertIs(nh.is_needs_ring(TWICE, LOST, ((1, 0), (0, 2))), True)


class Swaps(Case):
    def test_ways_between_mixes(self):
        for jobs in SOME:
            coming = told_by(jobs)
            pairs = [(mixes[0], mixes[-1]) for mixes in coming.values()] + [(mixes[-1], mixes[len(mixes) // 2])
                                                                            for mixes in coming.values()]
            every = oracle.mixes(jobs)
            pairs += list(zip(every[::5], every[::7]))
            for one, other in pairs:
                same = oracle.is_let(jobs, one) and oracle.is_let(jobs, other) and (
                    oracle.outcome(jobs, one) == oracle.outcome(jobs, other))
                self.assertIs(nh.same_tale(jobs, one, other), same)
                if is_watched(jobs):
                    self.refuses(Unfit(), nh.tale_swaps, jobs, one, other)
                    for thing in ((), None, [1]):
                        self.refuses(Unfit(), nh.is_tale_swaps, jobs, one, other, thing)
                else:
                    self.check_swaps(jobs, one, other, same, coming)

    def check_swaps(self, jobs, one, other, same, coming):
        told = nh.tale_swaps(jobs, one, other)
        self.assertEqual(told is None, not same)
        self.assertIs(nh.is_tale_swaps(jobs, one, other, nm.swaps_between(jobs, one, other)), same)
        if same:
            # A guarantee: as many swaps as their distance, all MIXES on the way of the TALE, too.
            self.assertEqual(len(told), nm.distance(jobs, one, other))
            mix, mixes = one, coming[oracle.outcome(jobs, one)]
            for move in told:
                mix = nm.swapped(jobs, mix, move)
                self.assertIn(mix, mixes)
            self.assertEqual(mix, other)
            self.assertIs(nh.is_tale_swaps(jobs, one, other, told), True)

    def test_all_tuples_of_swaps(self):
        jobs = CROSS[:2]
        for mixes in told_by(jobs).values():
            for one, other in product(mixes[:4], mixes[-4:]):
                for many in range(4):
                    for thing in product(range(-1, 6), repeat=many):
                        wanted, mix = many == nm.distance(jobs, one, other), one
                        for move in thing:
                            wanted = wanted and 0 <= move < 5 and mix[move] != mix[move + 1]
                            mix = nm.swapped(jobs, mix, move) if wanted else mix
                            wanted = wanted and mix in mixes
                        self.assertIs(nh.is_tale_swaps(jobs, one, other, thing), wanted and mix == other)

    def test_what_are_no_swaps(self):
        one, other = (0, 0, 1, 0, 1, 1), (0, 1, 0, 1, 0, 1)
        self.assertIs(nh.is_tale_swaps(CROSS[:2], one, other, (1, 3)), True)
        for thing in (None, [1, 3], (1,), (1, 3, 3), (1, None), (True, 3), ("1", 3), (3, 9), 1):
            self.assertIs(nh.is_tale_swaps(CROSS[:2], one, other, thing), False)


def at_least(levels, others):
    return all(oracle.LEVELS.index(one) >= oracle.LEVELS.index(other) for one, other in zip(levels, others))


class Givings(Case):
    def test_against_all_givings(self):
        for jobs in SOME[::4] + [TWICE, WATCHED, CROSS[:2]]:
            steps = tuple(line for _, line in jobs)
            tales = {levels: told_by(oracle.at_levels(steps, levels)) for levels in oracle.all_levels(len(jobs))}
            every = sorted(set(all_tales(jobs)), key=repr)
            wholes = oracle.whole_outcomes(jobs)
            for tale in every[::max(1, len(every) // 12)] + wholes[:2]:
                fit = tuple(levels for levels in tales if tale in tales[levels])
                self.assertEqual(nh.givings(jobs, tale), fit)
                highest = tuple(levels for levels in fit if not any(at_least(other, levels) and other != levels for other in fit))
                self.assertEqual(nh.highest_givings(jobs, tale), highest)
                # Guarantees: it comes with each lesser GIVING; the OUTCOME of a whole MIX with all.
                self.assertTrue(all(other in fit for levels in fit for other in tales if at_least(levels, other)))
                if tale in wholes:
                    self.assertEqual(len(fit), 3 ** len(jobs))

    def test_own_levels_play_no_part(self):
        for levels in oracle.all_levels(2):
            jobs = oracle.at_levels((AGAIN[1], AGAIN[1]), levels)
            self.assertEqual(nh.givings(jobs, LOST), (("plain", "plain"), ("shot", "plain"), ("watched", "plain")))
            self.assertEqual(nh.highest_givings(jobs, LOST), (("watched", "plain"),))

    def test_rows_for(self):
        for jobs in SOME:
            coming = told_by(jobs)
            for seen in all_seen(jobs)[::3]:
                fit = sorted(rows for told, rows in coming if told == seen)
                self.assertEqual(nh.rows_for(jobs, seen), fit)
                self.assertEqual(nh.tale_for(jobs, seen), (seen, fit[0]) if fit else None)


class TooMany(Case):
    def test_unfit_ahead_of_all(self):
        seen = ((None,) * 7, ())
        tale = (seen, tuple((row, (1,)) for row in "abcdefg"))
        mix = (0,) * 8 + (1,) * 8
        self.assertIs(nh.is_tale(WIDE, tale), True)
        self.assertEqual(len(nh.needs(WIDE, tale)), len(needs(WIDE, tale)))
        for function in (nh.comes, nh.mix_of, nh.needs_ring, nh.how_many_of, nh.surely_beside, nh.maybe_beside,
                         nh.surely_first, nh.givings, nh.highest_givings):
            self.refuses(Unfit(), function, WIDE, tale)
        for function in (nh.rows_for, nh.tale_for):
            self.refuses(Unfit(), function, WIDE, seen)
        self.refuses(Unfit(), nh.tale_by, WIDE, mix)
        self.refuses(Unfit(), nh.nth_of, WIDE, tale, -1)
        for function in (nh.same_tale, nh.tale_swaps):
            self.refuses(Unfit(), function, WIDE, mix, mix)
        for thing in ((), None, [1], mix):
            self.refuses(Unfit(), nh.is_mix_of, WIDE, tale, thing)
            self.refuses(Unfit(), nh.is_needs_ring, WIDE, tale, thing)
            self.refuses(Unfit(), nh.is_tale_swaps, WIDE, mix, mix, thing)

    def test_as_many_without_a_watched_one(self):
        jobs = (("shot",) + WIDE[0][1:], WIDE[1])
        tale = (((None,) * 7, ()), tuple((row, (1,)) for row in "abcdefg"))
        self.assertEqual(nh.mix_of(jobs, tale), (0,) * 8 + (1,) * 8)
        self.assertIs(nh.is_mix_of(jobs, tale, (0,) * 8 + (1,) * 8), True)
        self.assertEqual(nh.rows_for(jobs, tale[0]), [tale[1]])
        self.assertEqual(nh.tale_by(jobs, (1,) * 8 + (0,) * 8), (((1,) * 7, ()), tale[1]))

    def test_barred_behind_unfit(self):
        jobs = (("watched", ()), AGAIN, AGAIN)
        self.refuses(Barred(5), nh.tale_by, jobs, (0, 1, 2, 1, 1, 2, 2))
        self.refuses(Unfit(), nh.nth_of, jobs, (((), (None,), (1,)), (("x", (1, 2)),)), 9 ** 9)


if __name__ == "__main__":
    unittest.main()
