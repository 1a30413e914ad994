"""FOR ALL MIXES of small JOBS: safe exactly if there is no SPLIT, enough exactly if at least the least GIVING.

Here MIXES are gone through one by one; what is let and what is straight is told by the oracle's words.
"""

import unittest
from itertools import permutations

import oracle
from nosplit import levels as nl
from nosplit import orders, splits, store
from support import family


class Judged:
    """All MIXES of some STEPS, and which are let and straight at which levels."""

    def __init__(self, steps):
        self.steps = steps
        self.mixes = oracle.mixes(oracle.at_levels(steps, ("plain",) * len(steps)))

    def is_safe(self, levels):
        jobs = oracle.at_levels(self.steps, levels)
        outcomes = oracle.whole_outcomes(jobs)
        return not any(oracle.outcome(jobs, mix) not in outcomes and oracle.is_let(jobs, mix) for mix in self.mixes)


class Safety(unittest.TestCase):
    def check(self, steps, givings):
        judged, least = Judged(steps), nl.least_levels(oracle.at_levels(steps, ("plain",) * len(steps)))
        for levels in givings:
            with self.subTest(steps=steps, levels=levels):
                safe = judged.is_safe(levels)
                self.assertIs(splits.safe(oracle.at_levels(steps, levels)), safe)
                above = all(oracle.LEVELS.index(a) >= oracle.LEVELS.index(b) for a, b in zip(levels, least))
                self.assertEqual(above, safe)

    def test_two_jobs_over_two_rows(self):
        for steps in family("ab", 3, 2):
            self.check(steps, oracle.all_levels(2))

    def test_two_jobs_over_three_rows(self):
        for steps in family("abc", 3, 2):
            self.check(steps, oracle.all_levels(2))

    def test_two_jobs_with_idle_steps(self):
        lines = oracle.steps_of_rows("ab", 2)
        for one in lines[::2]:
            for other in lines[1::3]:
                self.check((one, other), oracle.all_levels(2)[::2])

    def test_three_short_jobs(self):
        short = [steps for steps in family("abc", 2, 3) if sum(len(line) for line in steps) <= 5]
        for at, steps in enumerate(short[::2]):
            self.check(steps, oracle.all_levels(3)[at % 3::3])

    def test_three_jobs(self):
        long = [steps for steps in family("abc", 2, 3) if sum(len(line) for line in steps) == 6]
        for at, steps in enumerate(long[::5]):
            some = [("watched",) * 3, ("shot",) * 3, ("plain", "shot", "watched"), ("watched", "watched", "shot")]
            self.check(steps, [some[at % 4], some[(at + 1) % 4]])

    def test_pinches_of_three(self):
        # Only the third rule of the watched ones, x another one than y, keeps these three straight.
        steps = ((("read", "a"), ("read", "b")), (("read", "b"), ("write", "a")), (("write", "b"),))
        self.check(steps, oracle.all_levels(3))
        self.assertEqual(nl.least_levels(oracle.at_levels(steps, ("plain",) * 3)), ("watched",) * 3)

    def test_three_jobs_by_the_package(self):
        # The store and the orders are held against the oracle elsewhere: so more can be gone through here.
        for at, steps in enumerate(family("ab", 2, 3)[3::9]):
            mixes = oracle.mixes(oracle.at_levels(steps, ("plain",) * 3))
            for levels in oracle.all_levels(3)[at % 4::4]:
                jobs = oracle.at_levels(steps, levels)
                bad = [mix for mix in mixes if not orders.is_straight(jobs, mix) and store.is_let(jobs, mix)]
                self.assertIs(splits.safe(jobs), not bad)

    def test_outcomes_and_orders(self):
        # straight means the OUTCOME of some whole MIX: told by going through all of these.
        for steps in family("abc", 2, 3)[::20]:
            jobs = oracle.at_levels(steps, ("shot", "plain", "plain"))
            wholes = {order: oracle.outcome(jobs, oracle.whole(jobs, order)) for order in permutations(range(3))}
            for mix in oracle.mixes(jobs)[::11]:
                told = oracle.outcome(jobs, mix)
                self.assertEqual(orders.straight_orders(jobs, mix), [order for order in wholes if wholes[order] == told])


if __name__ == "__main__":
    unittest.main()
