"""[10]: nosplit/changes.py, and its guarantees."""

import unittest
from itertools import chain, combinations, permutations, product

import oracle
from nosplit import changes
from nosplit import splits
from nosplit.errors import NoNumber, Unfit
from support import Case, Lists, family, random_jobs, small_jobs

nc = Lists(changes)

TAKE, PAY = ("plain", (("read", "a"), ("write", "b"))), ("plain", (("write", "a"), ("write", "b")))
LOOK = ("read", "x"), ("read", "y")
SKEW = ("shot", LOOK + (("write", "x"),)), ("shot", LOOK + (("write", "y"),))
NEAR = ("read", "a"), ("write", "a")
BANK = (("shot", NEAR + (("read", "b"), ("write", "b"))), ("shot", NEAR), ("plain", (("write", "b"), ("write", "c"))))
MORE = BANK + (("shot", (("read", "a"), ("read", "b"))),)
# The middle one of five can be gone round on two roads, and on a third one that has a JOB in common with both.
ROADS = (("plain", (("write", "a"), ("write", "b"), ("write", "c"), ("write", "d"))),
         ("plain", (("read", "a"), ("write", "e"))), ("plain", (("read", "e"), ("write", "f"), ("read", "c"))),
         ("plain", (("read", "b"), ("read", "f"), ("write", "g"))), ("plain", (("read", "g"), ("read", "d"))))
# The shortest way, from 1 over 3, has to be given up again: 2 has no other one.
TURNED_BACK = (("plain", (("write", "p"), ("write", "q"))), ("plain", (("read", "p"), ("write", "u"), ("write", "v"))),
               ("plain", (("read", "p"), ("write", "w"))), ("plain", (("read", "u"), ("read", "w"), ("read", "q"))),
               ("plain", (("read", "v"), ("read", "q"))))

SOME = small_jobs() + [BANK, MORE, ROADS, TURNED_BACK, SKEW, (TAKE, PAY)] + random_jobs(11, 25, "abc", 3, 3) + random_jobs(
    12, 25, "abcd", 4, 3) + random_jobs(13, 12, "abcde", 5, 4)


def subsets(parts):
    return list(chain.from_iterable(combinations(parts, many) for many in range(len(parts) + 1)))


def put(job, order):
    return job[0], tuple(job[1][number] for number in order)


def put_at(jobs, place, job):
    return jobs[:place] + (job,) + jobs[place + 1:]


def orders_of(job):
    return [order for order in permutations(range(len(job[1]))) if oracle.is_line(put(job, order)[1])]


def is_fine(jobs, place):
    """Whether no SPLIT has this JOB as its head."""
    return not any(split[0] == place for split in oracle.splits(jobs))


def turns(order):
    return sum(one > other for one, other in combinations(order, 2))


class Orders(Case):
    def test_against_the_oracle(self):
        for jobs in SOME:
            for place, job in enumerate(jobs):
                if len(job[1]) > 3 or len(jobs) > 4:
                    continue
                orders = orders_of(job)
                for order in permutations(range(len(job[1]))):
                    self.assertIs(nc.is_order(jobs, place, order), order in orders)
                for order in orders:
                    self.assertEqual(nc.with_order(jobs, place, order), put_at(jobs, place, put(job, order)))
                fine = [order for order in orders if is_fine(put_at(jobs, place, put(job, order)), place)]
                self.assertEqual(nc.fine_orders(jobs, place), fine)
                best = min(fine, key=lambda order: (turns(order), order)) if fine else None
                self.assertEqual(nc.best_order(jobs, place), best)
                # A guarantee: if it is not plain all are fine, or none.
                if job[0] != "plain":
                    self.assertIn(fine, ([], orders))

    def test_best_is_not_the_least(self):
        # (0, 2, 1) has one turn and is greater than (0, 1, 2), which is not fine.
        jobs = (("plain", (("read", "a"), ("write", "c"), ("read", "b"))), ("plain", (("write", "b"), ("write", "c"))))
        fine = [order for order in orders_of(jobs[0]) if is_fine(put_at(jobs, 0, put(jobs[0], order)), 0)]
        self.assertEqual(nc.fine_orders(jobs, 0), fine)
        self.assertEqual(nc.best_order(jobs, 0), (0, 1, 2) if (0, 1, 2) in fine else min(
            fine, key=lambda order: (turns(order), order)))

    def test_what_is_no_order(self):
        for thing in (None, (0,), (0, 1, 2), (0, 0), (1, 1), [0, 1], (0, True), (False, 1), (0, 2), (-1, 0), "01", ((0,), 1), 0):
            self.assertIs(nc.is_order((TAKE, PAY), 0, thing), False)
        read_then_write = (("plain", NEAR),)
        self.assertIs(nc.is_order(read_then_write, 0, (0, 1)), True)
        self.assertIs(nc.is_order(read_then_write, 0, (1, 0)), False)
        self.assertEqual(nc.fine_orders(read_then_write, 0), [(0, 1)])

    def test_without_steps(self):
        jobs = (("plain", ()), TAKE)
        self.assertIs(nc.is_order(jobs, 0, ()), True)
        self.assertEqual(nc.with_order(jobs, 0, ()), jobs)
        self.assertEqual((nc.fine_orders(jobs, 0), nc.best_order(jobs, 0)), ([()], ()))

    def test_refusals(self):
        for function in (nc.fine_orders, nc.best_order):
            self.no_numbers(function, 4, lambda number: (MORE, number))
            self.refuses(NoNumber(0), function, (), 0)
        self.no_numbers(nc.with_order, 4, lambda number: (MORE, number, (9, 9)))
        for thing in ((0, 1, 2, 3), None, [0], ((9,),)):
            self.no_numbers(nc.is_order, 4, lambda number: (MORE, number, thing))

    def test_in_whatever_orders(self):
        # A guarantee, by all MIXES: safe exactly if each one's ORDER is fine.
        for at, steps in enumerate(family("abc", 3, 2)):
            if at % 3 == 0:
                levels = oracle.all_levels(2)[at // 3 % 9] if at % 2 else ("plain", "plain")
                self.check_all_orders(oracle.at_levels(steps, levels))
        for at, steps in enumerate(family("ab", 2, 3)):
            if at % 25 == 7:
                self.check_all_orders(oracle.at_levels(steps, oracle.all_levels(3)[at % 27]))

    def check_all_orders(self, jobs):
        fine = [nc.fine_orders(jobs, place) for place in range(len(jobs))]
        for orders in product(*[orders_of(job) for job in jobs]):
            there = tuple(put(job, order) for job, order in zip(jobs, orders))
            wanted = all(order in fine[place] for place, order in enumerate(orders))
            self.assertEqual(oracle.is_safe(there), wanted)


def can_be_held(jobs):
    return [(place, number) for place in range(len(jobs)) for number, row in oracle.reads(jobs, place)
            if row not in oracle.rows(jobs, place, "write")]


def held(jobs, holding):
    return tuple((level, tuple(step for number, (kind, row) in enumerate(steps) for step in (
        [(kind, row), ("write", row)] if (place, number) in holding else [(kind, row)])))
        for place, (level, steps) in enumerate(jobs))


class Holdings(Case):
    def test_against_the_oracle(self):
        for at, jobs in enumerate(SOME):
            able = can_be_held(jobs)
            if len(able) > 5 or len(jobs) > 4:
                continue
            saving = []
            for some in subsets(able):
                self.assertIs(nc.is_holding(jobs, some), True)
                self.assertEqual(nc.held(jobs, some), held(jobs, some))
                if not oracle.splits(held(jobs, some)):
                    saving.append(some)
            least = [some for some in saving if not any(set(part) < set(some) for part in saving)]
            self.assertEqual(nc.saving_holdings(jobs), sorted(least))
            for prices in ((1, 2, 3, 1, 2), (0, 0, 0, 0, 0), (5, 1, 0, 7, 7), (2, 2, 2, 2, 2)):
                costs = dict(zip(able, prices[at % 2:] + prices[:at % 2]))
                wanted = min([(sum(costs[pair] for pair in some), some) for some in saving], default=(0, None))[1]
                self.assertEqual(nc.cheapest_holding(jobs, tuple(costs.values())), wanted)
            # A guarantee: safe if none is plain and all that can be is held.
            if all(level != "plain" for level, _ in jobs):
                self.assertIs(splits.safe(held(jobs, able)), True)

    def test_safe_by_all_mixes(self):
        for steps in family("abc", 2, 2):
            for levels in (("shot", "shot"), ("plain", "shot"), ("watched", "shot")):
                jobs = oracle.at_levels(steps, levels)
                for some in nc.saving_holdings(jobs):
                    self.assertTrue(oracle.is_safe(held(jobs, some)))
                    for part in subsets(some)[:-1]:
                        self.assertFalse(oracle.is_safe(held(jobs, part)))

    def test_ascending_not_by_how_many(self):
        jobs = (("shot", (("write", "a"), ("read", "c"), ("read", "d"))), ("shot", (("read", "b"), ("read", "d"), ("write", "c"))),
                ("shot", (("read", "a"), ("write", "b"), ("read", "c"))))
        able = can_be_held(jobs)
        fit = [some for some in subsets(able) if not oracle.splits(held(jobs, some))]
        least = [some for some in fit if not any(set(one) < set(some) for one in fit)]
        self.assertNotEqual(sorted(least), sorted(least, key=lambda some: (len(some), some)))
        self.assertEqual(nc.saving_holdings(jobs), sorted(least))

    def test_what_is_no_holding(self):
        self.assertEqual(can_be_held(SKEW), [(0, 1), (1, 0)])
        for thing in (None, ((0, 0),), ((0, 2),), ((1, 0), (0, 1)), ((0, 1), (0, 1)), [(0, 1)], ([0, 1],), ((0, True),),
                      ((False, 1),), ((2, 0),), ((0, -1),), ((0, 1, 0),), (0, 1), ((0, None),), "0", ((0, 1), None)):
            self.assertIs(nc.is_holding(SKEW, thing), False)
        self.assertIs(nc.is_holding((), ()), True)

    def test_prices(self):
        for prices in ((), (1,), (1, 2, 3)):
            self.refuses(Unfit(), nc.cheapest_holding, SKEW, prices)
        self.refuses(Unfit(), nc.cheapest_holding, (), (1,))
        self.assertEqual(nc.cheapest_holding(SKEW, [2, 5]), ((0, 1),))
        self.assertEqual(nc.cheapest_holding((), ()), ())
        self.assertEqual(nc.saving_holdings(()), [()])
        again = ("plain", NEAR)
        self.assertEqual((nc.cheapest_holding((again, again), ()), nc.saving_holdings((again, again))), (None, []))


def owners(jobs, cuts):
    return [place for place in range(len(jobs)) for _ in range(len(cuts[place]) + 1)]


def stretches(job, cut):
    ends = (0,) + tuple(cut) + (len(job[1]),)
    return [job[1][start:end] for start, end in zip(ends, ends[1:])]


def pieces_of(jobs, cuts):
    return tuple((job[0], steps) for job, cut in zip(jobs, cuts) for steps in stretches(job, cut))


def all_cuts(jobs):
    return list(product(*[subsets(range(1, len(steps))) for _, steps in jobs]))


def mixes_keeping(jobs, cuts):
    """All MIXES of PIECES that keep the CUTS: the moves of each JOB stand one behind another, PIECE by PIECE."""
    lines, pieces, first = [], pieces_of(jobs, cuts), 0
    for cut in cuts:
        own = range(first, first + len(cut) + 1)
        lines.append([piece for piece in own for _ in range(len(pieces[piece][1]) + 1)])
        first += len(own)
    flat = tuple(("plain", tuple(("read", "r") for _ in line[1:])) for line in lines)
    for mix in oracle.mixes(flat):
        yield tuple(lines[place][mix[:move].count(place)] for move, place in enumerate(mix))


def is_unbroken(jobs, cuts, mix):
    whose = owners(jobs, cuts)
    seen, rows = oracle.outcome(pieces_of(jobs, cuts), mix)
    told = tuple(tuple(None if one is None else whose[one] for piece, line in enumerate(seen) if whose[piece] == place
                       for one in line) for place in range(len(jobs)))
    places = tuple((row, tuple(whose[piece] for piece in line)) for row, line in rows)
    return (told, places) in oracle.whole_outcomes(jobs)


def lots_beside(jobs, place):
    found = {(other,) for other in range(len(jobs)) if other != place}
    while True:
        pair = next(((one, other) for one in found for other in found if one != other and any(
            oracle.do_clash(jobs, a, b) for a in one for b in other)), None)
        if pair is None:
            return tuple(sorted(found))
        found = (found - set(pair)) | {tuple(sorted(pair[0] + pair[1]))}


def clashes(jobs, steps, other):
    return any(oracle.clash(a, b) for a in steps for b in jobs[other][1])


def are_clean_at(jobs, place, cut):
    for lot in lots_beside(jobs, place):
        if sum(any(clashes(jobs, steps, other) for other in lot) for steps in stretches(jobs[place], cut)) > 1:
            return False
    return True


def are_clean(jobs, cuts):
    return all(are_clean_at(jobs, place, cuts[place]) for place in range(len(jobs)))


def is_joining(jobs, cuts, place, piece, later, others):
    lines = stretches(jobs[place], cuts[place])
    return (piece < later and place not in others and len(set(others)) == len(others) > 0
            and clashes(jobs, lines[piece], others[0]) and clashes(jobs, lines[later], others[-1])
            and all(oracle.do_clash(jobs, a, b) for a, b in zip(others, others[1:])))


def joinings(jobs, cuts):
    found = []
    for place in range(len(jobs)):
        rest = [other for other in range(len(jobs)) if other != place]
        for piece, later in combinations(range(len(cuts[place]) + 1), 2):
            for many in range(1, len(rest) + 1):
                found += [(place, piece, later, others) for others in permutations(rest, many)
                          if is_joining(jobs, cuts, place, piece, later, others)]
    return found


class Cuts(Case):
    def test_against_the_oracle(self):
        for jobs in SOME:
            every = all_cuts(jobs)
            clean = [cuts for cuts in every if are_clean(jobs, cuts)]
            most = max(sum(map(len, cuts)) for cuts in clean)
            self.assertEqual([nc.finest_cuts(jobs)], [cuts for cuts in clean if sum(map(len, cuts)) == most])
            for place in range(len(jobs)):
                self.assertEqual(nc.lots_beside(jobs, place), lots_beside(jobs, place))
            for cuts in every[::max(1, len(every) // 20)]:
                self.assertIs(nc.is_cuts(jobs, cuts), True)
                self.assertEqual(nc.pieces_of(jobs, cuts), pieces_of(jobs, cuts))
                self.assertIs(nc.are_clean(jobs, cuts), cuts in clean)
                self.assertIs(nc.are_right(jobs, cuts), cuts in clean and not oracle.splits(jobs))
                self.check_papers(jobs, cuts)

    def check_papers(self, jobs, cuts):
        told = nc.joining(jobs, cuts)
        self.assertEqual(told is None, are_clean(jobs, cuts))
        if told is not None:
            self.assertTrue(is_joining(jobs, cuts, *told))
            self.assertIs(nc.is_joining(jobs, cuts, told), True)
            self.assertEqual(nc.joining([list(job) for job in jobs], cuts), told)
        mix = nc.breaking_mix(jobs, cuts)
        self.assertEqual(mix is None, nc.are_right(jobs, cuts))
        if mix is not None:
            pieces, whose = pieces_of(jobs, cuts), owners(jobs, cuts)
            self.assertEqual(sorted(mix), sorted(piece for piece, (_, steps) in enumerate(pieces) for _ in range(len(steps) + 1)))
            for piece in range(1, len(pieces)):
                if whose[piece] == whose[piece - 1]:
                    self.assertLess(oracle.commit(pieces, mix, piece - 1), oracle.begin(pieces, mix, piece))
            self.assertTrue(oracle.is_let(pieces, mix))
            self.assertFalse(is_unbroken(jobs, cuts, mix))
            self.assertIs(nc.is_breaking_mix(jobs, cuts, mix), True)
            self.assertEqual(nc.breaking_mix([list(job) for job in jobs], cuts), mix)

    def test_all_joinings(self):
        for jobs, cuts in ((BANK, ((1, 3), (1,), ())), (MORE, ((2,), (), (1,), (1,))), ((TAKE, PAY), ((1,), (1,)))):
            every = joinings(jobs, cuts)
            self.assertTrue(every)
            tuples = [others for many in range(4) for others in product(range(-1, len(jobs) + 1), repeat=many)]
            for place, piece, later in product(range(-1, len(jobs) + 1), range(-1, 4), range(-1, 4)):
                for others in tuples:
                    thing = (place, piece, later, others)
                    self.assertIs(nc.is_joining(jobs, cuts, thing), thing in every)

    def check_all_mixes(self, jobs, cuts):
        """A guarantee, by all MIXES of PIECES: right exactly if clean and safe."""
        pieces, right = pieces_of(jobs, cuts), True
        outcomes = [is_unbroken(jobs, cuts, mix) for mix in mixes_keeping(jobs, cuts)]
        for mix, unbroken in zip(mixes_keeping(jobs, cuts), outcomes):
            self.assertIs(nc.is_unbroken(jobs, cuts, mix), unbroken)
            if not unbroken:
                let = oracle.is_let(pieces, mix)
                self.assertIs(nc.is_breaking_mix(jobs, cuts, mix), let)
                right = right and not let
        self.assertIs(nc.are_right(jobs, cuts), right)

    def test_right_by_all_mixes(self):
        for at, steps in enumerate(family("abc", 2, 2)):
            for more in range(3):
                jobs = oracle.at_levels(steps, oracle.all_levels(2)[(at + 4 * more) % 9])
                for cuts in all_cuts(jobs):
                    self.check_all_mixes(jobs, cuts)

    def test_right_by_all_mixes_of_three(self):
        short = [steps for steps in family("abc", 2, 3) if sum(len(line) for line in steps) == 4]
        for at, steps in enumerate(short):
            jobs = oracle.at_levels(steps, oracle.all_levels(3)[at * 5 % 27])
            self.check_all_mixes(jobs, all_cuts(jobs)[-1])
            self.check_all_mixes(jobs[::-1], all_cuts(jobs[::-1])[0])

    def test_right_by_all_mixes_of_longer_ones(self):
        for at, steps in enumerate(family("abc", 3, 2)):
            if at % 45 == 11:
                jobs = oracle.at_levels(steps, oracle.all_levels(2)[at % 9])
                for cuts in all_cuts(jobs)[1::3]:
                    self.check_all_mixes(jobs, cuts)

    def test_keeping(self):
        jobs, cuts = (("plain", LOOK), ("shot", (("write", "x"), ("write", "y")))), ((1,), ())
        keeping = list(mixes_keeping(jobs, cuts))
        for mix in oracle.mixes(pieces_of(jobs, cuts)):
            self.assertIs(nc.keeps_cuts(jobs, cuts, mix), mix in keeping)
            wanted = mix in keeping and oracle.is_let(pieces_of(jobs, cuts), mix) and not is_unbroken(jobs, cuts, mix)
            self.assertIs(nc.is_breaking_mix(jobs, cuts, mix), wanted)
        self.assertIs(nc.is_breaking_mix(jobs, cuts, (0, 0, 2, 2, 2, 1, 1)), True)
        self.assertIs(nc.is_breaking_mix(jobs, ((), ()), (0, 1, 1, 1, 0, 0)), True)

    def test_what_are_no_cuts(self):
        self.assertIs(nc.is_cuts(BANK, ((1, 2, 3), (1,), (1,))), True)
        for thing in (None, (), ((), ()), ((), (), (), ()), ((0,), (), ()), ((4,), (), ()), ((2, 1), (), ()), ((1, 1), (), ()),
                      ((True,), (), ()), ([1], (), ()), [(1,), (), ()], ((-1,), (), ()), (1, (), ()), ((None,), (), ()),
                      ("1", (), ())):
            self.assertIs(nc.is_cuts(BANK, thing), False)
        self.assertIs(nc.is_cuts((("plain", ()),), ((),)), True)
        self.assertIs(nc.is_cuts((("plain", ()),), ((0,),)), False)

    def test_no_jobs_and_no_steps(self):
        self.assertEqual((nc.finest_cuts(()), nc.pieces_of((), ())), ((), ()))
        self.assertIs(nc.is_cuts((), ()), True)
        self.assertEqual((nc.are_clean((), ()), nc.are_right((), ()), nc.joining((), ()), nc.breaking_mix((), ())),
                         (True, True, None, None))
        self.assertIs(nc.is_unbroken((), (), ()), True)
        self.assertIs(nc.keeps_cuts((), (), ()), True)
        bare = (("shot", ()), TAKE)
        self.assertEqual((nc.finest_cuts(bare), nc.pieces_of(bare, ((), (1,)))[0]), (((), (1,)), ("shot", ())))

    def test_refusals(self):
        self.no_numbers(nc.lots_beside, 4, lambda number: (MORE, number))
        self.refuses(NoNumber(0), nc.lots_beside, (), 0)


def sides(jobs, place, number, gone=()):
    """Those others that clash with a STEP ahead of this one, and those with it or one behind it."""
    steps, rest = jobs[place][1], [other for other in range(len(jobs)) if other != place and other not in gone]
    return ([other for other in rest if clashes(jobs, steps[:number], other)],
            [other for other in rest if clashes(jobs, steps[number:], other)])


def all_roads(jobs, place, number):
    firsts, lasts = sides(jobs, place, number)
    rest = [other for other in range(len(jobs)) if other != place]
    return [road for many in range(1, len(rest) + 1) for road in permutations(rest, many)
            if road[0] in firsts and road[-1] in lasts
            and all(oracle.do_clash(jobs, a, b) for a, b in zip(road, road[1:]))]


def is_clean_without(jobs, place, number, gone):
    kept = [other for other in range(len(jobs)) if other not in gone]
    part = tuple(jobs[other] for other in kept)
    return number == 0 or are_clean_at(part, kept.index(place), (number,))


class Away(Case):
    def test_against_the_oracle(self):
        for jobs in SOME:
            for place, (_, steps) in enumerate(jobs):
                rest = [other for other in range(len(jobs)) if other != place]
                for number in range(len(steps)):
                    wanted = min([gone for gone in subsets(rest) if is_clean_without(jobs, place, number, gone)],
                                 key=lambda gone: (len(gone), gone))
                    self.assertEqual(nc.fewest_away(jobs, place, number), wanted)
                    told, roads = nc.roads_past(jobs, place, number), all_roads(jobs, place, number)
                    # A guarantee: as many as the most ROADS without a JOB in common.
                    self.assertEqual(len(told), len(wanted))
                    self.assertEqual(told, tuple(sorted(told)))
                    self.assertTrue(all(road in roads for road in told))
                    self.assertEqual(len(set(chain(*told))), len(list(chain(*told))))
                    self.assertIs(nc.are_roads_past(jobs, place, number, told), True)

    def test_all_sets_of_roads(self):
        for jobs, place, number in ((ROADS, 0, 2), (ROADS, 0, 1), (MORE, 0, 2), (BANK, 0, 1), (BANK, 0, 2), (BANK, 0, 0)):
            roads, many = all_roads(jobs, place, number), len(nc.fewest_away(jobs, place, number))
            for count in range(3):
                for some in product(roads + [(9,), (place,), (0, 0), ()], repeat=count):
                    wanted = (count == many and list(some) == sorted(some) and all(road in roads for road in some)
                              and len(set(chain(*some))) == len(list(chain(*some))))
                    self.assertIs(nc.are_roads_past(jobs, place, number, some), wanted)

    def test_two_roads(self):
        self.assertEqual(len(nc.roads_past(ROADS, 0, 2)), 2)
        self.assertEqual(nc.fewest_away(ROADS, 0, 2), (1, 3))
        self.assertEqual((nc.fewest_away(ROADS, 0, 0), nc.roads_past(ROADS, 0, 0)), ((), ()))
        for thing in (None, (), ((1, 2),), ((1, 2), (3,)), [(1, 2), (3, 4)], ([1, 2], (3, 4)), ((3, 4), (1, 2)),
                      ((1, 2), (3, True)), ((1, 2), (3, 4), (1, 2)), ((1, 2), (3, 9)), (1, 2), "12"):
            self.assertIs(nc.are_roads_past(ROADS, 0, 2, thing), False)
        self.assertIs(nc.are_roads_past(ROADS, 0, 2, ((1, 2), (3, 4))), True)

    def test_a_road_that_is_given_up(self):
        self.assertEqual(nc.roads_past(TURNED_BACK, 0, 1), ((1, 4), (2, 3)))
        self.assertEqual(nc.fewest_away(TURNED_BACK, 0, 1), (1, 2))

    def test_refusals(self):
        for function in (nc.fewest_away, nc.roads_past):
            self.no_numbers(function, 4, lambda number: (MORE, number, 0))
            self.no_numbers(function, 4, lambda number: (MORE, 0, number))
            self.refuses(NoNumber(4), function, MORE, 4, 9)
            self.refuses(NoNumber(0), function, (("plain", ()),), 0, 0)
        for thing in ((), None, [1], ((9,),)):
            self.refuses(NoNumber(4), nc.are_roads_past, MORE, 4, 9, thing)
            self.refuses(NoNumber(2), nc.are_roads_past, MORE, 1, 2, thing)


if __name__ == "__main__":
    unittest.main()
