"""[9]: nosplit/levels.py, and its guarantees."""

import unittest
from itertools import product

import oracle
from nosplit import jobs as nj
from nosplit import levels as nl
from nosplit.errors import NoNumber
from samples import CUT, JOBS, SKEW
from support import Case, family, small_jobs

LOOK, PUT = ("plain", (("read", "x"), ("read", "y"))), ("plain", (("write", "x"), ("write", "y")))
PAIR = (LOOK, PUT)
FOUR = CUT + (("watched", (("read", "a"), ("write", "a"))),)


def some_jobs():
    found = [jobs for jobs in small_jobs() if len(jobs) <= 3] + [CUT, JOBS, SKEW, PAIR, FOUR]
    return found + [oracle.at_levels(steps, oracle.all_levels(3)[at % 27])
                    for at, steps in enumerate(family("abc", 2, 3)) if at % 12 == 5]


SOME = some_jobs()


def enough(jobs):
    """All GIVINGS that are enough, ascending, by the SPLITS of the oracle."""
    givings = [levels for levels in product(oracle.LEVELS, repeat=len(jobs))]
    return [levels for levels in givings if not oracle.splits(nj.with_levels(jobs, levels))]


def rank(level):
    return oracle.LEVELS.index(level)


def at_least(levels, others):
    return all(rank(level) >= rank(other) for level, other in zip(levels, others))


def least(jobs):
    """The GIVING that is enough and that all others that are enough are at least."""
    fit = enough(jobs)
    found = [levels for levels in fit if all(at_least(other, levels) for other in fit)]
    assert len(found) == 1
    return found[0]


class Givings(Case):
    def test_is_giving(self):
        for levels in product(oracle.LEVELS, repeat=3):
            self.assertIs(nl.is_giving(JOBS, levels), True)
        for thing in ((), ("plain",) * 2, ("plain",) * 4, ["plain"] * 3, ("plain", "shot", "high"), ("plain", "shot", None),
                      ("plain", "shot", 0), ("plain", "shot", ("shot",)), None, "plain", ("plain", "shot", True), 3):
            self.assertIs(nl.is_giving(JOBS, thing), False)
        self.assertIs(nl.is_giving((), ()), True)

    def test_against_the_oracle(self):
        for jobs in SOME:
            fit, low = enough(jobs), least(jobs)
            for levels in product(oracle.LEVELS, repeat=len(jobs)):
                self.assertIs(nl.is_enough(jobs, levels), levels in fit)
                # Guarantees: enough exactly if at least the least one; watched throughout is.
                self.assertEqual(levels in fit, at_least(levels, low))
            self.assertIn(("watched",) * len(jobs), fit)
            self.assertEqual(nl.all_enough(jobs), fit)
            self.assertEqual(nl.least_levels(jobs), low)
            self.assertEqual([nl.least_level(jobs, place) for place in range(len(jobs))], list(low))
            for one, other in list(product(fit, fit))[::7]:
                lesser = tuple(min(pair, key=rank) for pair in zip(one, other))
                self.assertEqual(nl.lesser_of(jobs, one, other), lesser)
                self.assertIn(lesser, fit)

    def test_own_levels_play_no_part(self):
        for levels in oracle.all_levels(3):
            jobs = nj.with_levels(CUT, levels)
            self.assertEqual(nl.least_levels(jobs), ("watched",) * 3)
            self.assertEqual(nl.all_enough(jobs), [("watched",) * 3])
            self.assertEqual(nl.split_below(jobs, 1), nl.split_below(CUT, 1))

    def test_no_jobs(self):
        self.assertEqual((nl.least_levels(()), nl.all_enough(()), nl.lesser_of((), (), ())), ((), [()], ()))
        self.assertIs(nl.is_enough((), ()), True)
        self.assertEqual((nl.cheapest((), ()), nl.price_of((), (), ())), ((0, ()), 0))
        self.assertEqual((nl.fewest_watched(()), nl.enough_within((), ())), ((), True))
        self.assertEqual((nl.levels_with((), LOOK), nl.raised_by((), LOOK)), (("plain",), ()))


class Changed(Case):
    def test_with_one_more(self):
        for jobs in SOME:
            for job in (LOOK, PUT, ("shot", (("read", "a"), ("write", "b"))), ("watched", ())):
                longer = jobs + (job,)
                wanted = least(longer) if len(longer) <= 4 else nl.least_levels(longer)
                self.assertEqual(nl.levels_with(jobs, job), wanted)
                before = least(jobs)
                self.assertTrue(at_least(wanted[:-1], before))
                self.assertEqual(nl.raised_by(jobs, job), tuple(
                    place for place in range(len(jobs)) if wanted[place] != before[place]))

    def test_without_one(self):
        for jobs in SOME:
            low = least(jobs)
            lone = [least(nj.without_job(jobs, place)) for place in range(len(jobs))]
            for place in range(len(jobs)):
                others = [other for other in range(len(jobs)) if other != place]
                lowered = [other for at, other in enumerate(others) if rank(lone[place][at]) < rank(low[other])]
                self.assertEqual(nl.lowered_without(jobs, place), tuple(lowered))
                costs = [other for other in others if rank(lone[other][place - (other < place)]) < rank(low[place])]
                self.assertEqual(nl.who_costs(jobs, place), tuple(costs))

    def test_without_a_step(self):
        for jobs in SOME:
            low = least(jobs)
            for place, (_, steps) in enumerate(jobs):
                costly = [step for step in range(len(steps))
                          if rank(least(nj.without_step(jobs, place, step))[place]) < rank(low[place])]
                self.assertEqual(nl.costly_steps(jobs, place), tuple(costly))

    def test_a_step_less_may_raise_a_level(self):
        # The guarantee says that some may have a greater level then: held apart by a write, they split without it.
        held = (("plain", (("read", "x"), ("write", "z"), ("write", "y"))),
                ("plain", (("read", "y"), ("write", "z"), ("write", "x"))))
        self.assertEqual(nl.least_levels(held), ("shot", "shot"))
        self.assertEqual(nl.least_levels(nj.without_step(held, 0, 1)), ("watched", "watched"))


class Prices(Case):
    def test_against_all_givings(self):
        tables = [(1, 5, 4), (0, 2, 0), (3, 3, 3), (9, 1, 0), (0, 0, 7), (2, 0, 0)]
        for at, jobs in enumerate(SOME):
            fit = enough(jobs)
            for shift in range(4):
                prices = tuple(tables[(at + shift * place + place) % 6] for place in range(len(jobs)))
                costs = {levels: sum(row[rank(level)] for row, level in zip(prices, levels)) for levels in fit}
                wanted = min((cost, levels) for levels, cost in costs.items())
                self.assertEqual(nl.cheapest(jobs, prices), wanted)
                for levels in fit:
                    self.assertEqual(nl.price_of(jobs, prices, levels), costs[levels])

    def test_of_any_giving(self):
        self.assertEqual(nl.price_of(PAIR, ((1, 5, 4), (0, 2, 10 ** 9)), ("plain", "watched")), 1 + 10 ** 9)


class Below(Case):
    def test_against_the_oracle(self):
        for jobs in SOME:
            low = least(jobs)
            for place in range(len(jobs)):
                told = nl.split_below(jobs, place)
                if low[place] == "plain":
                    self.assertIsNone(told)
                    self.assertIs(nl.is_split_below(jobs, place, (0, 0, (1,))), False)
                    continue
                lower = oracle.LEVELS[rank(low[place]) - 1]
                every = oracle.splits(nj.with_level(nj.with_levels(jobs, low), place, lower))
                self.assertIn(told, every)
                heads = [(head, step) for head in range(len(jobs)) for step in range(3)]
                for others in [split[2] for split in every] + [(0,), (1,), (0, 1), (1, 0), ()]:
                    for head, step in heads:
                        thing = (head, step, others)
                        self.assertIs(nl.is_split_below(jobs, place, thing), thing in every)

    def test_refusals(self):
        for function in (nl.least_level, nl.lowered_without, nl.costly_steps, nl.who_costs, nl.split_below):
            self.no_numbers(function, 3, lambda number: (CUT, number))
            self.refuses(NoNumber(0), function, (), 0)
        for thing in ((0, 0, (1, 2)), None, [1], "x"):
            self.no_numbers(nl.is_split_below, 3, lambda number: (CUT, number, thing))


class Within(Case):
    def test_against_the_oracle(self):
        for jobs in SOME:
            sets = [tuple(place for place in range(len(jobs)) if code >> place & 1) for code in range(1 << len(jobs))]
            fit, found = enough(jobs), []
            for some in sets:
                levels = tuple("watched" if place in some else "plain" for place in range(len(jobs)))
                self.assertIs(nl.enough_within(jobs, some), levels in fit)
                if levels in fit:
                    found.append((len(some), some))
            self.assertEqual(nl.fewest_watched(jobs), min(found)[1])

    def test_refusals(self):
        self.refuses(NoNumber(3), nl.enough_within, CUT, (0, 3, 9))
        self.refuses(NoNumber(-1), nl.enough_within, CUT, (-1, 0))
        self.refuses(NoNumber(0), nl.enough_within, (), (0,))


if __name__ == "__main__":
    unittest.main()
