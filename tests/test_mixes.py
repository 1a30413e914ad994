"""[5]: nosplit/mixes.py."""

import unittest
from itertools import permutations, product
from math import factorial

import oracle
from nosplit import mixes as nm
from nosplit.errors import NoNumber, Unfit
from nosplit.jobs import part_of
from samples import JOBS, MIX
from support import Case, small_jobs

SMALL = [jobs for jobs in small_jobs() if nm.how_many(jobs) <= 300]
LONG = tuple(("shot", tuple((kind, row) for row in "abcd" for kind in ("read", "write"))) for _ in range(12))


def some_mixes(jobs, many=40):
    every = oracle.mixes(jobs)
    return every[::max(1, len(every) // many)]


def apart(jobs, one, other):
    """The distance as the document has it: pairs of moves of unlike JOBS that stand the other way about."""
    moves = [(place, number) for place in range(len(jobs)) for number in range(len(jobs[place][1]) + 1)]
    at = [{move: oracle.moves(jobs, mix, move[0])[move[1]] for move in moves} for mix in (one, other)]
    return len([1 for a in moves for b in moves
                if a[0] < b[0] and (at[0][a] < at[0][b]) != (at[1][a] < at[1][b])])


class Numbers(Case):
    def test_is_mix(self):
        for jobs in SMALL:
            places, long = range(len(jobs)), sum(len(steps) + 1 for _, steps in jobs)
            if len(places) ** long <= 5000:
                every = set(oracle.mixes(jobs))
                for thing in product(places, repeat=long):
                    self.assertIs(nm.is_mix(jobs, thing), thing in every)
        self.assertIs(nm.is_mix((), ()), True)
        for thing in (MIX[:-1], MIX + (0,), MIX[:-1] + (3,), MIX[:-1] + (-1,), list(MIX), None, (), (0,) * 8):
            self.assertIs(nm.is_mix(JOBS, thing), False)
        self.assertIs(nm.is_mix(JOBS, (False,) + MIX[1:]), False)

    def test_all_and_their_numbers(self):
        for jobs in SMALL:
            every = oracle.mixes(jobs)
            self.assertEqual(nm.how_many(jobs), len(every))
            self.assertEqual(nm.all_mixes(jobs), every)
            self.assertEqual([nm.nth_mix(jobs, number) for number in range(len(every))], every)
            self.assertEqual([nm.number_of(jobs, mix) for mix in every], list(range(len(every))))
            self.no_numbers(nm.nth_mix, len(every), lambda number: (jobs, number))
        self.assertEqual([nm.how_many(()), nm.all_mixes(()), nm.nth_mix((), 0), nm.number_of((), ())], [1, [()], (), 0])

    def test_of_however_many(self):
        many = nm.how_many(LONG)
        self.assertEqual(many, factorial(108) // factorial(9) ** 12)
        self.assertEqual(nm.nth_mix(LONG, 0), tuple(place for place in range(12) for _ in range(9)))
        self.assertEqual(nm.nth_mix(LONG, many - 1), tuple(place for place in reversed(range(12)) for _ in range(9)))
        for number in (many // 3, many // 2, many - 2):
            mix = nm.nth_mix(LONG, number)
            self.assertTrue(nm.is_mix(LONG, mix))
            self.assertEqual(nm.number_of(LONG, mix), number)
        self.refuses(NoNumber(many), nm.nth_mix, LONG, many)


class Moves(Case):
    def test_against_the_oracle(self):
        for jobs in SMALL:
            for mix in some_mixes(jobs):
                self.check(jobs, mix)

    def check(self, jobs, mix):
        places = range(len(jobs))
        self.assertEqual(nm.begins(jobs, mix), tuple(oracle.begin(jobs, mix, place) for place in places))
        self.assertEqual(nm.commits(jobs, mix), tuple(oracle.commit(jobs, mix, place) for place in places))
        for place in places:
            self.assertEqual(nm.moves_of(jobs, mix, place), tuple(oracle.moves(jobs, mix, place)))
        beside = [(one, other) for one in places for other in places if oracle.beside(jobs, mix, one, other)]
        for one in places:
            for other in places:
                self.assertIs(nm.are_beside(jobs, mix, one, other), (one, other) in beside)
        self.assertEqual(nm.pairs_beside(jobs, mix), tuple(pair for pair in beside if pair[0] < pair[1]))
        self.assertEqual(nm.order_of(jobs, mix), tuple(sorted(places, key=lambda place: oracle.commit(jobs, mix, place))))
        for move, place in enumerate(mix):
            step = mix[:move].count(place)
            self.assertEqual(nm.done_at(jobs, mix, move), (place, None if step == len(jobs[place][1]) else step))
            self.assertEqual(nm.open_at(jobs, mix, move), tuple(
                at for at in places if oracle.begin(jobs, mix, at) < move <= oracle.commit(jobs, mix, at)))

    def test_refusals(self):
        self.no_numbers(nm.moves_of, 3, lambda number: (JOBS, MIX, number))
        for function in (nm.done_at, nm.open_at, nm.swapped):
            self.no_numbers(function, 8, lambda number: (JOBS, MIX, number))
            self.refuses(NoNumber(0), function, (), (), 0)
        self.no_numbers(nm.are_beside, 3, lambda number: (JOBS, MIX, number, 0))
        self.no_numbers(nm.are_beside, 3, lambda number: (JOBS, MIX, 0, number))
        self.refuses(NoNumber(8), nm.are_beside, JOBS, MIX, 8, -8)
        self.assertIs(nm.are_beside(JOBS, MIX, 1, 1), False)


class Whole(Case):
    def test_whole_mixes(self):
        for jobs in SMALL:
            orders = list(permutations(range(len(jobs))))
            wholes = sorted(oracle.whole(jobs, order) for order in orders)
            self.assertEqual(nm.whole_mixes(jobs), wholes)
            self.assertEqual([nm.whole_mix(jobs, order) for order in orders], [oracle.whole(jobs, o) for o in orders])
            for mix in oracle.mixes(jobs):
                self.assertIs(nm.is_whole(jobs, mix), mix in wholes)
                # A guarantee: a MIX is whole exactly if no two JOBS are beside one another.
                self.assertIs(nm.is_whole(jobs, mix), nm.pairs_beside(jobs, mix) == ())
        self.assertEqual((nm.whole_mixes(()), nm.whole_mix((), ()), nm.is_whole((), ())), ([()], (), True))

    def test_six(self):
        six = tuple(("plain", (("read", "a"),) * (place % 2)) for place in range(6))
        self.assertEqual(len(nm.whole_mixes(six)), 720)

    def test_how_many_by(self):
        for jobs in SMALL:
            orders = [nm.order_of(jobs, mix) for mix in oracle.mixes(jobs)]
            for order in permutations(range(len(jobs))):
                self.assertEqual(nm.how_many_by(jobs, order), orders.count(order))
        self.assertEqual(nm.how_many_by((), ()), 1)
        self.assertGreater(nm.how_many_by(LONG, tuple(range(12))), 10 ** 90)

    def test_orders_that_are_none(self):
        for order in ((), (0, 1), (0, 1, 1), (0, 1, 2, 2), (0, 1, 3), (-1, 0, 1), (0, 1, 2, 3), (True, 0, 2), (2, 2, 2)):
            self.refuses(Unfit(), nm.whole_mix, JOBS, order)
            self.refuses(Unfit(), nm.how_many_by, JOBS, order)


class Swaps(Case):
    def test_swapped_and_neighbours(self):
        for jobs in SMALL:
            for mix in some_mixes(jobs):
                near = []
                for move in range(len(mix)):
                    if move + 1 < len(mix) and mix[move] != mix[move + 1]:
                        other = list(mix)
                        other[move], other[move + 1] = mix[move + 1], mix[move]
                        near.append(tuple(other))
                        self.assertEqual(nm.swapped(jobs, mix, move), tuple(other))
                    else:
                        self.refuses(Unfit(), nm.swapped, jobs, mix, move)
                self.assertEqual(nm.neighbours(jobs, mix), sorted(near))
        self.assertEqual(nm.neighbours((), ()), [])
        self.assertEqual(nm.neighbours(JOBS[:1], (0, 0, 0)), [])

    def test_distance(self):
        for jobs in SMALL:
            for one in some_mixes(jobs, 6):
                for other in some_mixes(jobs, 8):
                    wanted = apart(jobs, one, other)
                    self.assertEqual(nm.distance(jobs, one, other), wanted)
                    swaps = nm.swaps_between(jobs, one, other)
                    self.assertEqual(len(swaps), wanted)
                    self.assertIs(nm.is_swaps_between(jobs, one, other, swaps), True)
                    mix = one
                    for move in swaps:
                        mix = nm.swapped(jobs, mix, move)
                    self.assertEqual(mix, other)

    def test_as_many_swaps_as_their_distance(self):
        # A guarantee: so many swaps lead from one MIX to another one, fewer never do.
        for jobs in SMALL:
            every = oracle.mixes(jobs)
            if len(every) > 80:
                continue
            for one in every[::7]:
                far, layer = {one: 0}, [one]
                while layer:
                    layer = sorted({near for mix in layer for near in nm.neighbours(jobs, mix) if near not in far})
                    far.update({mix: max(far.values()) + 1 for mix in layer})
                self.assertEqual(far, {mix: nm.distance(jobs, one, mix) for mix in every})

    def test_which_are_swaps(self):
        for jobs in SMALL:
            for one in some_mixes(jobs, 4):
                for other in some_mixes(jobs, 5):
                    self.check_swaps(jobs, one, other)

    def check_swaps(self, jobs, one, other):
        many = apart(jobs, one, other)
        if many > 3:
            return
        for thing in product(range(-1, len(one) + 1), repeat=many):
            mix, fits = one, True
            for move in thing:
                fits = fits and 0 <= move < len(mix) - 1
                if fits:
                    mix = mix[:move] + (mix[move + 1], mix[move]) + mix[move + 2:]
            self.assertIs(nm.is_swaps_between(jobs, one, other, thing), fits and mix == other)
        for thing in ((0,) * (many + 1), (0, 0) + nm.swaps_between(jobs, one, other), None, [0] * many):
            self.assertIs(nm.is_swaps_between(jobs, one, other, thing), False)

    def test_none_needed(self):
        self.assertEqual(nm.swaps_between(JOBS, MIX, MIX), ())
        self.assertIs(nm.is_swaps_between(JOBS, MIX, MIX, ()), True)
        self.assertIs(nm.is_swaps_between(JOBS, MIX, MIX, (0, 0)), False)


class Parts(Case):
    def test_part_mix(self):
        for jobs in SMALL:
            sets = [some for some in product((0, 1), repeat=len(jobs))]
            for mix in some_mixes(jobs, 20):
                for chosen in sets:
                    some = tuple(place for place in range(len(jobs)) if chosen[place])
                    left = [place for place in mix if place in some]
                    part = nm.part_mix(jobs, mix, some)
                    self.assertEqual(part, tuple(some.index(place) for place in left))
                    self.assertTrue(nm.is_mix(part_of(jobs, some), part))

    def test_refusals(self):
        self.refuses(NoNumber(3), nm.part_mix, JOBS, MIX, (1, 3, 9))
        self.refuses(NoNumber(-1), nm.part_mix, JOBS, MIX, (-1, 1))

    def test_pairs_tell_the_mix(self):
        # A guarantee: two MIXES are one exactly if, of any two JOBS, the moves stand in one way in both.
        for jobs in SMALL:
            if len(jobs) >= 2:
                pairs = [(a, b) for a in range(len(jobs)) for b in range(a + 1, len(jobs))]
                told = [tuple(nm.part_mix(jobs, mix, pair) for pair in pairs) for mix in oracle.mixes(jobs)]
                self.assertEqual(len(set(told)), len(told))


if __name__ == "__main__":
    unittest.main()
