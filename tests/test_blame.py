"""[17]: nosplit/blame.py, and its guarantees over MIXES that are let."""

import random
import unittest
from itertools import combinations, permutations, product

import oracle
from nosplit import blame
from nosplit import levels as nl
from nosplit.errors import NoNumber
from support import Case, Lists, family, random_jobs, small_jobs

nb = Lists(blame)

AGAIN = ("plain", (("read", "x"), ("write", "x")))
TWICE, LOST = (AGAIN, AGAIN), (0, 1, 0, 0, 1, 1)
PAIR, TORN = (("plain", (("read", "x"), ("read", "y"))), ("plain", (("write", "x"), ("write", "y")))), (0, 1, 1, 1, 0, 0)
RANK = {level: at for at, level in enumerate(oracle.LEVELS)}


def at_least(levels, others):
    return all(RANK[level] >= RANK[other] for level, other in zip(levels, others))


def with_levels(jobs, levels):
    return tuple((level, steps) for level, (_, steps) in zip(levels, jobs))


def subsets(parts):
    return [some for many in range(len(parts) + 1) for some in combinations(parts, many)]


class Judged:
    """A MIX with all levels: with which it is let, and straight."""

    def __init__(self, jobs, mix):
        self.jobs, self.mix = jobs, mix
        self.own = tuple(level for level, _ in jobs)
        self.every = oracle.all_levels(len(jobs))
        self.let = {levels: oracle.is_let(with_levels(jobs, levels), mix) for levels in self.every}
        self.straight = {levels: oracle.is_straight(with_levels(jobs, levels), mix) for levels in self.every}
        self.raises = [levels for levels in self.every if at_least(levels, self.own)]

    def hurts(self, levels):
        return self.let[levels] and not self.straight[levels]

    def least(self, found):
        return [levels for levels in found if not any(at_least(levels, other) and levels != other for other in found)]

    def greatest(self, found):
        return [levels for levels in found if not any(at_least(other, levels) and levels != other for other in found)]


def without(jobs, mix, undone):
    """The others and their moves as they stand."""
    left = [place for place in range(len(jobs)) if place not in undone]
    return tuple(jobs[place] for place in left), tuple(left.index(place) for place in mix if place in left)


def are_straight_without(jobs, mix, undone):
    return oracle.is_straight(*without(jobs, mix, undone))


def some_mixes():
    """Pairs of JOBS and MIXES that are let: many that are not straight, some that are."""
    found = []
    several = small_jobs()[::4] + random_jobs(41, 40, "ab", 3, 2) + random_jobs(42, 20, "abc", 3, 3)
    several += [oracle.at_levels(steps, levels) for at, steps in enumerate(family("ab", 3, 2)[::9])
                for levels in oracle.all_levels(2)[at % 5::5]]
    for jobs in several:
        mixes = oracle.mixes(jobs) if sum(len(steps) + 1 for _, steps in jobs) <= 9 else []
        let = [mix for mix in mixes[::max(1, len(mixes) // 60)] if oracle.is_let(jobs, mix)]
        bad = [mix for mix in let if not oracle.is_straight(jobs, mix)]
        found += [(jobs, mix) for mix in bad[::max(1, len(bad) // 3)] + let[:1]]
    return found + [(TWICE, LOST), (PAIR, TORN), ((), ())]


SOME = some_mixes()


def turning():
    """MIXES of four and five JOBS that are let and not straight, drawn."""
    found, chance = [], random.Random(43)
    for at, jobs in enumerate(random_jobs(44, 120, "abc", 4, 2) + random_jobs(45, 60, "abc", 5, 2)):
        moves = [place for place, (_, steps) in enumerate(jobs) for _ in range(len(steps) + 1)]
        if at % 4:
            jobs = with_levels(jobs, ("plain",) * len(jobs))
        for _ in range(12):
            chance.shuffle(moves)
            if oracle.is_let(jobs, tuple(moves)) and not oracle.is_straight(jobs, tuple(moves)):
                found.append((jobs, tuple(moves)))
    return found


TURNING = turning()


class Blame(Case):
    def each(self, some):
        for jobs, mix in some:
            with self.subTest(jobs=jobs, mix=mix):
                yield jobs, mix

    def test_levels(self):
        for jobs, mix in self.each(SOME[::2] + [(TWICE, LOST), (PAIR, TORN), ((), ())]):
            judged = Judged(jobs, mix)
            for levels in judged.every:
                self.assertIs(nb.hurts(jobs, mix, levels), judged.hurts(levels))
                bars = oracle.bars(with_levels(jobs, levels), mix)
                barred = [move for move, bar in enumerate(bars) if bar]
                self.assertEqual(nb.barred_with(jobs, mix, levels), barred[0] if barred else None)
            self.assertEqual(nb.hurting_levels(jobs, mix), [levels for levels in judged.every if judged.hurts(levels)])
            let = [levels for levels in judged.every if judged.let[levels]]
            self.assertEqual(nb.letting_levels(jobs, mix), judged.greatest(let))

    def test_raises(self):
        for jobs, mix in self.each(SOME[1::2] + [(TWICE, LOST), (PAIR, TORN), ((), ())]):
            judged = Judged(jobs, mix)
            refusing = [levels for levels in judged.raises if not judged.let[levels]]
            clearing = [levels for levels in judged.raises if not judged.hurts(levels)]
            self.assertEqual(nb.refusing_raises(jobs, mix), judged.least(refusing))
            self.assertEqual(nb.clearing_raises(jobs, mix), judged.least(clearing))
            single = []
            for place, level in product(range(len(jobs)), oracle.LEVELS):
                levels = judged.own[:place] + (level,) + judged.own[place + 1:]
                if RANK[level] > RANK[judged.own[place]] and not judged.hurts(levels):
                    single.append((place, level))
            self.assertEqual(nb.single_raises(jobs, mix), tuple(single) if judged.hurts(judged.own) else ())
            # Guarantees: what is at least a raise that refuses refuses; what is enough clears.
            least = nl.least_levels(jobs)
            for levels in judged.raises:
                self.assertEqual(levels in refusing, any(at_least(levels, other) for other in nb.refusing_raises(jobs, mix)))
                self.assertTrue(levels in clearing or not at_least(levels, least))

    def test_a_raise_above_one_that_clears_may_hurt(self):
        cross = (("plain", (("read", "x"), ("write", "y"))), ("plain", (("write", "x"), ("read", "y"))))
        late = (1, 0, 0, 0, 1, 1)
        self.assertEqual(nb.clearing_raises(cross, late), [("plain", "plain")])
        self.assertIs(nb.hurts(cross, late, ("plain", "shot")), True)
        self.assertEqual((nb.single_raises(cross, late), nb.undo_sets(cross, late)), ((), [()]))

    def test_without_some(self):
        for jobs, mix in self.each(SOME + TURNING[::2]):
            if len(jobs) > 5 or not mix:
                continue
            all_edges = oracle.edges(jobs, mix)
            for undone in subsets(range(len(jobs)))[1:]:
                part, moves = without(jobs, mix, undone)
                left = [place for place in range(len(jobs)) if place not in undone]
                self.assertTrue(oracle.is_let(part, moves))
                told = {(left[one], left[other], row, kind) for one, other, row, kind in oracle.edges(part, moves)}
                self.assertEqual(told, {edge for edge in all_edges if edge[0] in left and edge[1] in left})

    def test_who_is_undone(self):
        for jobs, mix in self.each(SOME + TURNING):
            places = range(len(jobs))
            enough = [some for some in subsets(places) if are_straight_without(jobs, mix, some)]
            least = [some for some in enough if not any(set(other) < set(some) for other in enough)]
            self.assertEqual(nb.undo_sets(jobs, mix), sorted(least))
            self.assertEqual(nb.lone_undos(jobs, mix), () if () in enough else tuple(some[0] for some in enough if len(some) == 1))
            for some in subsets(places):
                self.assertIs(nb.is_enough_undone(jobs, mix, some), some in enough)
            for prices in ((1,) * len(jobs), (0,) * len(jobs), (3, 1, 2, 0, 5)[:len(jobs)], (0, 4, 4, 1, 1)[:len(jobs)]):
                best = min(enough, key=lambda some: (sum(prices[place] for place in some), len(some), some))
                self.assertEqual(nb.cheapest_undone(jobs, mix, prices), best)

    def test_refused_in_turn(self):
        for jobs, mix in self.each(SOME + TURNING):
            kept, undone = [], []
            for place in sorted(range(len(jobs)), key=lambda place: oracle.commit(jobs, mix, place)):
                others = [other for other in range(len(jobs)) if other not in kept + [place]]
                (kept if are_straight_without(jobs, mix, others) else undone).append(place)
            self.assertEqual(nb.refused_in_turn(jobs, mix), tuple(sorted(undone)))

    def splits_shown(self, jobs, mix):
        """By going through all SPLITS."""
        pairs, found = {edge[:2] for edge in oracle.edges(jobs, mix)}, []
        for head, place, others in oracle.splits(jobs):
            ring = (head,) + others
            row = jobs[head][1][place][1]
            line = oracle.versions(jobs, mix, row, len(mix))
            seen = oracle.seen(jobs, mix, head, place)
            if all(pair in pairs for pair in zip(ring, ring[1:] + ring[:1])) and line.index(seen) < line.index(others[0]):
                found.append((head, place, others))
        return found

    def test_split_shown(self):
        for jobs, mix in self.each(SOME + TURNING):
            found, told = self.splits_shown(jobs, mix), nb.split_shown(jobs, mix)
            self.assertEqual(bool(found), not oracle.is_straight(jobs, mix))
            self.assertTrue(told in found if found else told is None)
            self.assertEqual(nb.split_shown([list(job) for job in jobs], list(mix)), told)
            self.assertEqual(nb.is_split_shown(jobs, mix, told), told is not None)

    def test_all_splits_shown(self):
        for jobs, mix in self.each(SOME + TURNING):
            found = self.splits_shown(jobs, mix)
            for head in range(len(jobs)):
                others = [place for place in range(len(jobs)) if place != head]
                for place in range(len(jobs[head][1])):
                    for many in range(len(others) + 1):
                        for some in permutations(others, many):
                            self.assertIs(nb.is_split_shown(jobs, mix, (head, place, some)), (head, place, some) in found)

    def test_what_is_no_split_shown(self):
        for thing in (None, [1, 0, (0,)], (1, 0, [0]), (1, 0, ()), (True, 0, (0,)), (1, 0, (0, 0)), (1, 1, (0,)), (0, 0, (1,)), (2, 0, (0,)),
                      (1, 0, (0,), 0), "split", (1, 0, (1,)), (1, 2, (0,))):
            self.assertIs(nb.is_split_shown(TWICE, LOST, thing), thing == (0, 0, (1,)))
        # Both read the first version, and each misses the other one's.
        self.assertIs(nb.is_split_shown(TWICE, LOST, (1, 0, (0,))), True)
        self.assertIs(nb.is_split_shown(TWICE, (0, 0, 0, 1, 1, 1), (1, 0, (0,))), False)

    def test_edges(self):
        self.assertEqual((nb.hurting_levels((), ()), nb.letting_levels((), ()), nb.refusing_raises((), ())), ([], [()], []))
        self.assertEqual((nb.clearing_raises((), ()), nb.single_raises((), ()), nb.undo_sets((), ())), ([()], (), [()]))
        self.assertEqual((nb.lone_undos((), ()), nb.cheapest_undone((), (), ()), nb.refused_in_turn((), ())), ((), (), ()))
        self.assertEqual((nb.split_shown((), ()), nb.hurts((), (), ()), nb.barred_with((), (), ())), (None, False, None))
        self.assertIs(nb.is_enough_undone((), (), ()), True)
        empty, mix = (("shot", ()), AGAIN, ("plain", ())), (0, 1, 1, 2, 1)
        self.assertEqual((nb.undo_sets(empty, mix), nb.clearing_raises(empty, mix)), ([()], [("shot", "plain", "plain")]))

    def test_numbers(self):
        self.no_numbers(nb.is_enough_undone, 2, lambda number: (TWICE, LOST, (number,)))
        self.refuses(NoNumber(2), nb.is_enough_undone, TWICE, LOST, (0, 2, 3))
        self.refuses(NoNumber(-1), nb.is_enough_undone, TWICE, LOST, (-1, 0, 5))
        self.refuses(NoNumber(0), nb.is_enough_undone, (), (), (0,))


if __name__ == "__main__":
    unittest.main()
