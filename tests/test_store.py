"""[6]: nosplit/store.py, and its guarantees."""

import unittest
from itertools import permutations, product

import oracle
from nosplit import mixes as nm
from nosplit import store
from nosplit.errors import Barred, CanNot, NoNumber, NoRow
from nosplit.jobs import levels_of, with_levels
from samples import ADDS, JOBS, MIX, SKEW, TURN
from support import Case, family, small_jobs

SMALL = [jobs for jobs in small_jobs() if nm.how_many(jobs) <= 600]
# x, j, y a pinch with x another one than y: x only reads, and sees y's version, but not j's.
LATE = (("watched", (("read", "a"), ("read", "b"))), ("watched", (("read", "b"), ("write", "a"))),
        ("watched", (("write", "b"),)))
LATE_MIX = (1, 2, 2, 0, 1, 0, 1, 0)


def some_mixes(jobs, many=60):
    every = oracle.mixes(jobs)
    return every[::max(1, len(every) // many)]


def beginnings(jobs):
    return sorted({mix[:many] for mix in oracle.mixes(jobs) for many in range(len(mix) + 1)})


def first_bar(jobs, done):
    """The number of the first barred move of a BEGINNING, told by a MIX that begins with it."""
    rest = [place for place in range(len(jobs)) for _ in range(len(jobs[place][1]) + 1 - done.count(place))]
    bars = oracle.bars(jobs, done + tuple(rest))[:len(done)]
    found = [move for move in range(len(done)) if bars[move]]
    return found[0] if found else None


class Seen(Case):
    def test_against_the_oracle(self):
        for jobs in SMALL + [LATE, SKEW]:
            for mix in some_mixes(jobs):
                self.check(jobs, mix)

    def check(self, jobs, mix):
        told = oracle.outcome(jobs, mix)
        self.assertEqual(store.outcome(jobs, mix), told)
        self.assertEqual(store.seen_by(jobs, mix), told[0])
        rows = sorted({row for _, steps in jobs for _, row in steps})
        for move, place in enumerate(mix):
            step = mix[:move].count(place)
            steps = jobs[place][1]
            if step < len(steps) and steps[step][0] == "read":
                self.assertEqual(store.seen_at(jobs, mix, move), oracle.seen(jobs, mix, place, step))
            else:
                self.refuses(CanNot(), store.seen_at, jobs, mix, move)
            for row in rows:
                self.assertEqual(store.versions_at(jobs, mix, row, move), tuple(oracle.versions(jobs, mix, row, move)))
            held = {(row, at) for row in rows for at in range(len(jobs))
                    for number, written in oracle.writes(jobs, at) if written == row
                    and oracle.moves(jobs, mix, at)[number] < move <= oracle.commit(jobs, mix, at)}
            self.assertEqual(store.held_at(jobs, mix, move), tuple(sorted(held)))

    def test_levels_tell_what_is_seen(self):
        look, put = (("read", "x"), ("read", "y")), (("write", "x"), ("write", "y"))
        mix = (0, 1, 1, 1, 0, 0)
        for level, seen in (("plain", (None, 1)), ("shot", (None, None)), ("watched", (None, None))):
            self.assertEqual(store.seen_by(((level, look), ("plain", put)), mix), (seen, ()))
        # Nobody sees its own version, or one that is not committed.
        own = (("plain", (("read", "x"), ("write", "x"), ("write", "y"))), ("plain", (("read", "x"),)))
        self.assertEqual(store.seen_by(own, (0, 0, 1, 1, 0, 0)), ((None,), (None,)))

    def test_refusals(self):
        for function in (store.held_at, store.seen_at, store.barred_by):
            self.no_numbers(function, 8, lambda number: (JOBS, MIX, number))
        self.no_numbers(store.versions_at, 8, lambda number: (JOBS, MIX, "x", number))
        self.no_rows(store.versions_at, lambda row: (JOBS, MIX, row, 0))
        self.refuses(NoNumber(8), store.versions_at, JOBS, MIX, "q", 8)
        self.refuses(NoNumber(0), store.versions_at, (), (), "q", 0)
        self.refuses(NoRow("y"), store.versions_at, ADDS, (0, 0, 0, 1, 1, 1), "y", 0)

    def test_no_jobs(self):
        self.assertEqual(store.outcome((), ()), ((), ()))
        self.assertEqual(store.seen_by((), ()), ())
        self.assertEqual(store.outcome((("shot", ()),), (0,)), (((),), ()))
        self.assertEqual(store.outcome((("shot", (("read", "x"),)),), (0, 0)), (((None,),), ()))


class Bars(Case):
    def test_against_the_oracle(self):
        for jobs in SMALL + [LATE, SKEW]:
            for mix in some_mixes(jobs):
                self.check(jobs, mix)

    def check(self, jobs, mix):
        bars = oracle.bars(jobs, mix)
        told = [(move, bar[0]) for move, bar in enumerate(bars) if bar]
        self.assertEqual(store.barred_moves(jobs, mix), told)
        self.assertEqual(store.first_barred(jobs, mix), told[0] if told else None)
        self.assertIs(store.is_let(jobs, mix), not told)
        for move, bar in enumerate(bars):
            self.assertEqual(store.barred_by(jobs, mix, move), tuple(sorted(bar[1])) if bar else ())
        triples = oracle.pinches(jobs, mix)
        self.assertEqual(store.pinches(jobs, mix), triples)
        for thing in product(range(-1, len(jobs) + 1), repeat=3):
            self.assertIs(store.is_pinch(jobs, mix, thing), thing in triples)

    def test_a_write_over_what_is_held(self):
        for level in oracle.LEVELS:
            jobs = (("plain", (("write", "x"),)), (level, (("write", "x"),)))
            self.assertEqual(store.barred_moves(jobs, (0, 1, 0, 1)), [(1, "w")])
            self.assertEqual(store.barred_by(jobs, (0, 1, 0, 1), 1), (0,))
            self.assertIs(store.is_let(jobs, (0, 0, 1, 1)), True)

    def test_a_write_over_what_was_committed_meanwhile(self):
        mix = (0, 1, 1, 0, 0)
        for level in oracle.LEVELS:
            jobs = ((level, (("read", "y"), ("write", "x"))), ("watched", (("write", "x"),)))
            self.assertEqual(store.barred_moves(jobs, mix), [] if level == "plain" else [(3, "w")])
        # Committed ahead of its begin, or of its first move being this write: it bars nothing.
        first = (("shot", (("write", "x"),)), ("shot", (("write", "x"),)))
        self.assertIs(store.is_let(first, (1, 1, 0, 0)), True)

    def test_two_bar_one_write(self):
        jobs = (("plain", (("write", "x"),)), ("plain", (("write", "x"),)), ("shot", (("read", "y"), ("write", "x"))))
        self.assertEqual(store.barred_by(jobs, (2, 0, 0, 1, 2, 1, 2), 4), (0, 1))
        # Barred moves are done as well, and so can bar others.
        self.assertEqual(store.barred_moves(jobs, (0, 1, 2, 2, 0, 1, 2)), [(1, "w"), (3, "w")])
        self.assertEqual(store.barred_by(jobs, (0, 1, 2, 2, 0, 1, 2), 3), (0, 1))
        self.assertEqual(store.held_at(jobs, (0, 1, 2, 2, 0, 1, 2), 4), (("x", 0), ("x", 1), ("x", 2)))

    def test_pinches(self):
        self.assertEqual(store.pinches(SKEW, TURN), [(0, 1, 0)])
        self.assertEqual(store.pinches(LATE, LATE_MIX), [(0, 1, 2)])
        self.assertEqual(store.first_barred(LATE, LATE_MIX), (7, "p"))
        self.assertEqual(store.barred_by(LATE, LATE_MIX, 7), (1, 2))
        for levels in oracle.all_levels(3):
            jobs = with_levels(LATE, levels)
            self.assertIs(store.is_let(jobs, LATE_MIX), levels != ("watched",) * 3)
        # A commit behind a pinch of others is not barred by it.
        third = SKEW + (("watched", (("read", "x"),)),)
        self.assertEqual(store.barred_moves(third, TURN + (2, 2)), [(7, "p")])
        self.assertEqual(store.barred_moves(third, (2,) + TURN + (2,)), [(8, "p")])
        self.assertEqual(store.barred_by(third, (2,) + TURN + (2,), 9), ())
        # y commits ahead of x, else there is no pinch.
        ahead = (1, 0, 2, 0, 0, 2, 1, 1)
        self.assertEqual(store.pinches(LATE, ahead), [])

    def test_no_jobs(self):
        self.assertEqual(store.barred_moves((), ()), [])
        self.assertIsNone(store.first_barred((), ()))
        self.assertIs(store.is_let((), ()), True)
        self.assertEqual(store.pinches((), ()), [])


class Beginnings(Case):
    def test_is_beginning(self):
        for jobs in SMALL:
            found, most = set(beginnings(jobs)), sum(len(steps) + 1 for _, steps in jobs) + 1
            for many in range(most + 1):
                if len(jobs) ** many <= 3000:
                    for thing in product(range(len(jobs)), repeat=many):
                        self.assertIs(store.is_beginning(jobs, thing), thing in found)
        for thing in ((3,), (-1,), [0], None, (True,), (0, None), ((0,),), (0, 0, 0, 0), (2, 2, 2)):
            self.assertIs(store.is_beginning(JOBS, thing), False)
        self.assertIs(store.is_beginning(JOBS, ()), True)
        self.assertIs(store.is_beginning(ADDS, (0, 1, 0, 0, 1, 1)), True)

    def test_what_may_come(self):
        for jobs in SMALL:
            if nm.how_many(jobs) <= 90:
                let = [mix for mix in oracle.mixes(jobs) if oracle.is_let(jobs, mix)]
                for done in beginnings(jobs):
                    self.check(jobs, done, let)

    def check(self, jobs, done, let):
        bar = first_bar(jobs, done)
        if bar is not None:
            for function in (store.may_come, store.how_many_let, store.first_let):
                self.refuses(Barred(bar), function, jobs, done)
            return
        nexts = [place for place, (_, steps) in enumerate(jobs) if done.count(place) <= len(steps)]
        nexts = tuple(place for place in nexts if first_bar(jobs, done + (place,)) is None)
        self.assertEqual(store.may_come(jobs, done), nexts)
        begun = [mix for mix in let if mix[:len(done)] == done]
        self.assertEqual(store.how_many_let(jobs, done), len(begun))
        self.assertEqual(store.first_let(jobs, done), begun[0] if begun else None)

    def test_a_dead_end(self):
        cross = (("plain", (("write", "x"), ("write", "y"))), ("plain", (("write", "y"), ("write", "x"))))
        self.assertEqual(store.may_come(cross, (0, 1)), ())
        self.assertEqual(store.how_many_let(cross, (0, 1)), 0)
        self.assertIsNone(store.first_let(cross, (0, 1)))

    def test_all_let(self):
        for jobs in SMALL:
            let = [mix for mix in oracle.mixes(jobs) if oracle.is_let(jobs, mix)]
            self.assertEqual(store.all_let(jobs), let)
            self.assertEqual([store.nth_let(jobs, number) for number in range(min(len(let), 9))], let[:9])
            self.assertEqual(store.nth_let(jobs, len(let) - 1), let[-1])
            self.no_numbers(store.nth_let, len(let), lambda number: (jobs, number))
        self.assertEqual((store.all_let(()), store.how_many_let((), ()), store.first_let((), ())), ([()], 1, ()))
        self.assertEqual(store.may_come((), ()), ())


class Guarantees(Case):
    def every(self, most=130):
        for jobs in SMALL:
            if nm.how_many(jobs) <= most:
                for mix in oracle.mixes(jobs):
                    yield jobs, mix

    def test_whole_mixes_are_let(self):
        for jobs in SMALL:
            for levels in oracle.all_levels(len(jobs)):
                for order in permutations(range(len(jobs))):
                    self.assertTrue(store.is_let(with_levels(jobs, levels), nm.whole_mix(jobs, order)))

    def test_a_bar_hangs_on_what_is_ahead_alone(self):
        for jobs in SMALL:
            told = {}
            for mix in some_mixes(jobs, 120):
                for move in range(len(mix)):
                    by = store.barred_by(jobs, mix, move)
                    self.assertEqual(told.setdefault(mix[:move + 1], by), by)

    def test_let_with_lesser_levels_too(self):
        for steps in family("ab", 2, 2) + family("abc", 3, 2)[::9]:
            for mix in oracle.mixes(oracle.at_levels(steps, ("plain",) * 2))[::3]:
                let = {levels: store.is_let(oracle.at_levels(steps, levels), mix) for levels in oracle.all_levels(2)}
                for lower, higher in product(let, let):
                    if all(map(lambda a, b: oracle.LEVELS.index(a) <= oracle.LEVELS.index(b), lower, higher)):
                        self.assertTrue(let[lower] or not let[higher])

    def test_rule_w_without_plain_jobs(self):
        for jobs, mix in self.every():
            if "plain" not in levels_of(jobs):
                kept = not [move for move, rule in store.barred_moves(jobs, mix) if rule == "w"]
                writing = [(a, b) for a, b in nm.pairs_beside(jobs, mix)
                           if oracle.rows(jobs, a, "write") & oracle.rows(jobs, b, "write")]
                self.assertEqual(kept, not writing)

    def test_neighbours_without_commits(self):
        for jobs, mix in self.every(60):
            for move in range(len(mix) - 1):
                if mix[move] != mix[move + 1] and not any(nm.done_at(jobs, mix, at)[1] is None for at in (move, move + 1)):
                    other = nm.swapped(jobs, mix, move)
                    self.assertEqual(store.outcome(jobs, mix), store.outcome(jobs, other))
                    self.assertEqual(store.is_let(jobs, mix), store.is_let(jobs, other))

    def test_a_row_is_never_held_by_two(self):
        for jobs, mix in self.every():
            if store.is_let(jobs, mix):
                for move in range(len(mix)):
                    rows = [row for row, _ in store.held_at(jobs, mix, move)]
                    self.assertEqual(len(rows), len(set(rows)))


if __name__ == "__main__":
    unittest.main()
