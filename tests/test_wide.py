"""[3] and the bounds of [10] to [15]: each function answers there, and what it answers holds."""

import unittest

import oracle
from nosplit import changes as nc
from nosplit import fillings as nf
from nosplit import gaps as ng
from nosplit import histories as nh
from nosplit import mixes as nm
from nosplit import ranges as nr
from nosplit import sessions as ns
from nosplit import splits, store
from nosplit import waits as nw
from test_bounds import KINDS, ROWS, mixed, wide

# Each level, and JOBS that clash with some others only.
SPARSE = tuple((oracle.LEVELS[place % 3], tuple((("read", "write")[(place + at) % 2], ROWS[(place + at) % 8]) for at in range(2)))
               for place in range(12))


class Changes(unittest.TestCase):
    def test_orders(self):
        for jobs in KINDS:
            turned = tuple(range(7, -1, -1))
            self.assertEqual(nc.with_order(jobs, 3, turned)[3][1], jobs[3][1][::-1])
            self.assertIs(nc.is_order(jobs, 3, turned), oracle.is_line(jobs[3][1][::-1]))
            short = jobs[:5] + ((jobs[5][0], jobs[5][1][1:7]),) + jobs[6:]
            fine = nc.fine_orders(short, 5)
            self.assertEqual(fine, sorted(fine))
            self.assertEqual(nc.best_order(short, 5) in fine, bool(fine))

    def test_fine_orders_of_six_plain_steps(self):
        lines = tuple(("plain", (("write", row), ("write", other))) for row, other in zip(ROWS[:6], ROWS[1:7]))
        jobs = (("plain", tuple((kind, row) for row in "abc" for kind in ("read", "write"))),) + lines
        for order in nc.fine_orders(jobs, 0):
            there = nc.with_order(jobs, 0, order)
            self.assertTrue(all(splits.split_at(there, 0, step) is None for step, _ in oracle.reads(there, 0)))

    def test_holdings(self):
        for level in oracle.LEVELS:
            jobs = tuple((level, tuple((kind, row) for row in ROWS[place % 4:place % 4 + 4] for kind in ("read", "write")))
                         for place in range(9)) + tuple(
                (level, (("read", one), ("read", other), ("write", "d"))) for one, other in ("ab", "bc", "ac"))
            able = [(place, step) for place in range(9, 12) for step in (0, 1)]
            self.assertIs(nc.is_holding(jobs, tuple(able)), True)
            saving = nc.saving_holdings(jobs)
            for some in saving:
                self.assertIs(splits.safe(nc.held(jobs, some)), True)
            told = nc.cheapest_holding(jobs, (10 ** 9, 3, 0, 1, 1, 2))
            self.assertEqual(told is None, not saving)

    def test_cuts(self):
        for jobs in KINDS + [SPARSE]:
            finest = nc.finest_cuts(jobs)
            self.assertIs(nc.are_clean(jobs, finest), True)
            self.assertIs(nc.are_right(jobs, finest), splits.safe(jobs))
            for cuts in (finest, tuple(tuple(range(1, len(steps))) for _, steps in jobs)):
                self.assertIs(nc.is_cuts(jobs, cuts), True)
                told, mix = nc.joining(jobs, cuts), nc.breaking_mix(jobs, cuts)
                self.assertEqual(told is None, nc.are_clean(jobs, cuts))
                self.assertEqual(nc.is_joining(jobs, cuts, told), told is not None)
                self.assertEqual(mix is None, nc.are_right(jobs, cuts))
                self.assertEqual(nc.is_breaking_mix(jobs, cuts, mix), mix is not None)
                pieces = nc.pieces_of(jobs, cuts)
                whole = oracle.whole(pieces, range(len(pieces)))
                self.assertIs(nc.keeps_cuts(jobs, cuts, whole), True)
                self.assertIs(nc.is_unbroken(jobs, cuts, whole), True)
                self.assertIs(nc.is_breaking_mix(jobs, cuts, whole), False)

    def test_turns_of_all_pieces(self):
        # 96 PIECES, as many beside one another as can be.
        for jobs in KINDS:
            cuts = tuple(tuple(range(1, 8)) for _ in jobs)
            flat = tuple((level, steps + steps[:7]) for level, steps in jobs)
            moves = mixed(flat, 1)
            counts = {}
            mix = []
            for place in moves:
                at = counts.get(place, 0)
                counts[place] = at + 1
                mix.append(8 * place + at // 2)
            pieces = nc.pieces_of(jobs, cuts)
            self.assertIs(nm.is_mix(pieces, tuple(mix)), True)
            self.assertIs(nc.keeps_cuts(jobs, cuts, mix), True)
            unbroken = nc.is_unbroken(jobs, cuts, mix)
            self.assertIs(nc.is_breaking_mix(jobs, cuts, tuple(mix)), not unbroken and store.is_let(pieces, mix))

    def test_roads(self):
        for jobs in KINDS + [SPARSE]:
            for place, (_, steps) in enumerate(jobs):
                self.assertTrue(nc.lots_beside(jobs, place))
                for number in (0, len(steps) - 1):
                    roads, gone = nc.roads_past(jobs, place, number), nc.fewest_away(jobs, place, number)
                    self.assertEqual(len(roads), len(gone))
                    self.assertIs(nc.are_roads_past(jobs, place, number, roads), True)


def six(level, tables, more):
    """Six PROGRAMS of four slots and five STEPS."""
    found = []
    for place in range(6):
        slots = tuple((slot, tables[(place + at) % len(tables)]) for at, slot in enumerate("pqrs"))
        reads = tuple(("read", slot) for slot in "pqrs"[:4 - more])
        writes = tuple(("write", slot) for slot in "srqp"[:1 + more])
        found.append((level, slots, reads + writes))
    return tuple(found)


class Fillings(unittest.TestCase):
    def test_six_programs(self):
        many = ("ta", "tb", "tc", "td", "te", "tf")
        for level in oracle.LEVELS:
            self.check(six(level, many, 0), ())
            self.check(six(level, many, 2), ("ta", "tf"))
        for level, tables, more in (("shot", ("ta",), 0), ("plain", ("ta",), 2), ("watched", ("ta", "tb"), 0),
                                    ("shot", ("ta", "tb"), 2)):
            self.check(six(level, tables, more), ())

    def check(self, programs, lone):
        self.assertTrue(all(nf.is_program(program) for program in programs))
        fewest, told = nf.fewest_copies(programs, lone), nf.bad_company(programs, lone)
        self.assertIs(nf.are_safe(programs, lone), fewest is None)
        self.assertIs(nf.safe_up_to(programs, lone, 1), True)
        self.assertEqual(told is None, fewest is None)
        self.assertEqual(nf.is_bad_company(programs, lone, told), told is not None)
        if told is not None:
            self.assertEqual((len(told[0]), nf.is_company(programs, lone, told[0])), (fewest, True))
        self.assertEqual(bool(nf.bad_heads(programs, lone)), fewest is not None)
        self.assertEqual((tuple(range(6)) in nf.greatest_safe(programs, lone)), fewest is None)
        least = nf.least_for(programs, lone)
        self.assertIs(nf.is_enough_for(programs, lone, least), True)
        self.assertEqual(nf.least_for_more(programs[:5], lone, programs[5]), least)
        for table in nf.saving_tables(programs, lone):
            self.assertIs(nf.are_safe(programs, nf.with_lone(programs, lone, table)), True)

    def test_programs_of_jobs(self):
        jobs = tuple(("shot", tuple((("read", "write")[at % 2], ROWS[(place + at) % 8]) for at in range(4))) for place in range(6))
        programs, lone = nf.as_programs(jobs)
        self.assertEqual(nf.are_safe(programs, lone), splits.safe(jobs * 2))


class Histories(unittest.TestCase):
    def test_twelve_jobs(self):
        for kind in KINDS[:2] + KINDS[3:5] + KINDS[6:8]:
            jobs = tuple((("plain", "shot")[place % 2] if kind[0][0] == "shot" else "plain", steps)
                         for place, (_, steps) in enumerate(kind))
            order = tuple(reversed(range(12)))
            for mix in (nm.whole_mix(jobs, order), mixed(jobs, 1)):
                tale = store.outcome(jobs, mix)
                self.assertIs(nh.is_tale(jobs, tale), True)
                told, ring = nh.mix_of(jobs, tale), nh.needs_ring(jobs, tale)
                self.assertEqual(told is None, ring is not None)
                self.assertEqual(nh.comes(jobs, tale), told is not None)
                self.assertEqual(nh.is_mix_of(jobs, tale, told), told is not None)
                self.assertEqual(nh.is_needs_ring(jobs, tale, ring), ring is not None)
                self.assertEqual(nh.is_mix_of(jobs, tale, mix), store.is_let(jobs, mix))
                if store.is_let(jobs, mix):
                    self.assertEqual(nh.tale_by(jobs, mix), tale)
                    self.assertIs(nh.same_tale(jobs, mix, told), True)
                    self.assertIs(nh.is_tale_swaps(jobs, mix, told, nh.tale_swaps(jobs, mix, told)), True)

    def test_as_many_states_as_can_be(self):
        # The numbers of SPOTS, each one more, multiplied: 3,125 of five, 2,048 of eleven, 3,969 of two and two more.
        for jobs in (tuple(("plain", (("read", "a"), ("read", "b"), ("write", row))) for row in "cdefg"),
                     tuple(("shot", ()) for _ in range(11)),
                     (("shot", tuple(("read", row) for row in ROWS[:7])), ("plain", tuple(("write", row) for row in ROWS[:7])),
                      ("plain", tuple(("read", row) for row in ROWS[1:6])), ("shot", tuple(("write", row) for row in "h")))):
            tale = store.outcome(jobs, nm.whole_mix(jobs, tuple(range(len(jobs)))))
            many = nh.how_many_of(jobs, tale)
            first, last = nh.nth_of(jobs, tale, 0), nh.nth_of(jobs, tale, many - 1)
            self.assertEqual(first, nh.mix_of(jobs, tale))
            self.assertIs(nh.is_mix_of(jobs, tale, last), True)
            self.assertLessEqual(set(nh.surely_beside(jobs, tale)), set(nh.maybe_beside(jobs, tale)))
            for one, other in nh.surely_first(jobs, tale):
                self.assertLess(nm.moves_of(jobs, last, one[0])[one[1]], nm.moves_of(jobs, last, other[0])[other[1]])

    def test_with_watched_ones(self):
        for jobs in ((("watched", tuple(("read", row) for row in "abcde") + (("write", "f"),)),
                      ("watched", (("read", "f"),) + tuple(("write", row) for row in "abcde"))),
                     (("watched", (("read", "a"),)), ("watched", (("write", "a"),)), ("watched", (("read", "b"),)),
                      ("watched", (("write", "b"),)))):
            for tale in {store.outcome(jobs, mix) for mix in nm.all_mixes(jobs)[::97]}:
                self.assertEqual(nh.comes(jobs, tale), (jobs[0][0],) * len(jobs) in nh.givings(jobs, tale))
                self.assertTrue(nh.highest_givings(jobs, tale))
                self.assertEqual(nh.mix_of(jobs, tale) is None, not nh.comes(jobs, tale))

    def test_two_hundred_rows(self):
        jobs = tuple((level, (("read", "x"), ("write", "a"))) for level in ("plain", "shot", "plain", "plain", "shot"))
        seen = ((None,),) * 5
        # Both shot ones hold to their begin: all have an order of their own.
        self.assertEqual(len(nh.rows_for(jobs, seen)), 120)
        self.assertEqual(nh.tale_for(jobs, seen), (seen, (("a", (0, 1, 2, 3, 4)),)))
        eight = wide("shot", 4)
        self.assertEqual(len(nh.rows_for(eight, store.outcome(eight, nm.whole_mix(eight, (3, 1, 2, 0)))[0])), 1)


class Sessions(unittest.TestCase):
    def test_eight_jobs(self):
        for kind in KINDS:
            jobs = kind[:8]
            for ahead in ((), ns.ahead_of_sessions(jobs, ((0, 3, 5), (7, 2), (1, 4))),
                          ns.ahead_of_rounds(jobs, ((0, 1, 2), (3, 4, 5, 6, 7)))):
                self.assertIs(ns.is_ahead(jobs, ahead), True)
                split = ns.split_by(jobs, ahead)
                self.assertEqual(ns.is_safe_by(jobs, ahead), split is None)
                self.assertEqual(ns.is_split_by(jobs, ahead, split), split is not None)
                if split is not None:
                    mix = ns.short_mix_of(jobs, ahead, split)
                    self.assertEqual((ns.is_short_mix(jobs, mix), ns.is_let_short(jobs, mix), ns.keeps_ahead(jobs, ahead, mix)),
                                     (True, True, True))
                    self.assertIs(ns.is_straight_by(jobs, ahead, mix), False)
                levels = ns.least_by(jobs, ahead)
                self.assertIs(ns.is_safe_by(tuple((level, steps) for level, (_, steps) in zip(levels, jobs)), ahead), True)

    def test_chain_of_seven_others(self):
        for level in ("plain", "shot"):
            hops = tuple((level, (("read", ROWS[place]), ("write", ROWS[place + 1]))) for place in range(6))
            jobs = ((level, (("read", "a"), ("write", "h"))),) + ((level, (("write", "a"),)),) + hops[:5] + (
                (level, (("read", "f"), ("read", "h"))),)
            self.assertEqual(ns.split_by(jobs, ()), (0, 0, (1, 2, 3, 4, 5, 6, 7)))
            # With 3 ahead of 2 the way is barred from 2 on to 3.
            self.assertNotIn(ns.split_by(jobs, ((3, 2),)), [(0, 0, (1, 2, 3, 4, 5, 6, 7)), None])
            self.assertIs(ns.is_split_by(jobs, ((3, 2),), (0, 0, (1, 2, 3, 4, 5, 6, 7))), False)

    def test_six_jobs(self):
        for kind in KINDS:
            jobs = kind[:6]
            for ahead in ((), ((0, 1), (2, 3))):
                self.assertEqual(not ns.healing_pairs(jobs, ahead) or not ns.is_safe_by(jobs, ahead), True)
                self.assertEqual(not ns.spoiling_pairs(jobs, ahead) or ns.is_safe_by(jobs, ahead), True)
            rounds = ns.rounds_for(jobs)
            self.assertEqual(len(rounds), ns.fewest_rounds(jobs))
            self.assertIs(ns.is_safe_by(jobs, ns.ahead_of_rounds(jobs, rounds)), True)

    def test_rows_of_six(self):
        jobs = tuple(("plain", (("read", ROWS[place]),)) for place in range(8))
        mix = mixed(jobs[:6], 1)
        self.assertEqual(len(ns.rows_by(jobs, (), mix)), 720)
        self.assertEqual(len(ns.rows_by(jobs, ((0, 7), (7, 5)), mix)), 360)
        self.assertEqual((ns.who_come(jobs, mix), ns.come_alone(jobs, mix)[1]), (tuple(range(6)), mix))
        self.assertIs(ns.is_straight_by(jobs, (), mixed(jobs, 3)), True)


class Ranges(unittest.TestCase):
    def jobs(self, level, many):
        """Twelve RANGE JOBS of eight STEPS, eight numbers written."""
        found = []
        for place in range(many):
            lows = [10 ** 8 * (2 * at) - 10 ** 9 for at in range(6)]
            ranges = tuple(("range", low, low + 10 ** 8 * (1 + place % 2) - 1) for low in lows)
            writes = tuple(("write", 10 ** 8 * (-9, -6, -3, -1, 2, 4, 7, 10)[(place + at) % 8]) for at in range(2))
            found.append((level, ranges + writes))
        return tuple(found)

    def test_twelve(self):
        for level in oracle.LEVELS:
            jobs = self.jobs(level, 12)
            keys = tuple(range(-10 ** 9, 10 ** 9, 10 ** 8))
            self.assertIs(nr.is_range_jobs(jobs), True)
            split, mix = nr.range_split(jobs), mixed(jobs, 1)
            self.assertEqual(nr.are_safe_ranges(jobs), split is None)
            self.assertEqual(nr.is_range_split(jobs, split), split is not None)
            bad = nr.bad_range_mix(jobs)
            self.assertEqual(nr.is_bad_range_mix(jobs, bad), split is not None)
            if split is not None:
                self.assertTrue(all(nr.split_numbers(jobs, split)[:-1]))
            self.assertEqual(len(nr.range_outcome(jobs, mix)[0]), 12)
            self.assertIs(nr.is_range_mix(jobs, mix), True)
            wanted = nr.is_let_by_ranges(jobs, mix) and not nr.is_straight_by_ranges(jobs, mix)
            self.assertEqual(nr.is_bad_range_mix(jobs, mix), wanted)
            for some in (keys, keys[::7], ()):
                found = ng.fences(some, jobs)
                self.assertEqual(ng.barred_for_nothing(tuple(sorted(set(some + found))), jobs), ())
                self.assertIs(ng.is_fence_paper(some, jobs, ng.fence_paper(some, jobs)), True)
                self.assertEqual(len(ng.fence_paper(some, jobs)), len(found))
                ng.phantoms(some, jobs)

    def test_many_fences(self):
        # Eight writers that nobody meets, each between two ranges.
        looks = tuple(("shot", tuple(("range", 100 * at + 10 * place, 100 * at + 10 * place + 5) for at in range(8)))
                      for place in range(4))
        puts = tuple(("plain", (("write", 100 * at + 57),)) for at in range(8))
        jobs = looks + puts
        found = ng.fences((), jobs)
        self.assertEqual(found, tuple(sorted([100 * at + 35 for at in range(8)] + [100 * at + 57 for at in range(7)])))
        self.assertEqual(ng.barred_for_nothing(found, jobs), ())
        self.assertEqual(len(ng.fence_paper((), jobs)), 15)

    def test_cells(self):
        keys = tuple(range(-10 ** 9, 10 ** 9, 10 ** 6))
        self.assertEqual(ng.cell_of(keys, 1), (10 ** 6,))
        self.assertEqual(len(ng.touched(keys, -10 ** 9, 10 ** 9)), 2001)
        self.assertEqual(ng.barred_beside(keys, 5, 7), ((1, 4), (8, 10 ** 6)))
        self.assertIs(ng.bars_all(keys, 1, 10 ** 6 + 1, ((10 ** 6,), (2 * 10 ** 6,))), True)


class Waits(unittest.TestCase):
    def kept(self, jobs, step):
        """A kept BEGINNING as long as turns by this step make it."""
        done = ()
        for _ in range(400):
            able = [place for place in nw.may_move(jobs, done)]
            if not able:
                return done
            done = done + (able[(step * len(done)) % len(able)],)
        return done

    def test_twelve_jobs(self):
        for jobs in KINDS + [SPARSE]:
            done = self.kept(jobs, 5)
            for some in (done, done[:30], done[:12]):
                self.assertIs(nw.is_kept(jobs, some), True)
                told, lost = nw.ending(jobs, some), nw.loss(jobs, some)
                self.assertEqual(told is None, lost is not None)
                self.assertEqual(nw.is_ending(jobs, some, told), told is not None)
                self.assertEqual(nw.is_loss(jobs, some, lost), lost is not None)
                self.assertEqual(nw.how_many_endings(jobs, some) > 0, told is not None)
                self.assertEqual(set(nw.late_pairs(jobs, some)) == set() or lost is not None, True)
                for place in range(12):
                    held, other = nw.held_rows(jobs, some, place), nw.waits_for(jobs, some, place)
                    self.assertTrue(not held or place in nw.open_jobs(jobs, some))
                    self.assertTrue(other is None or nw.held_rows(jobs, some, other))
                if told is not None:
                    self.assertEqual(nw.can_end(jobs, some), tuple(range(12)))
                    self.assertTrue(nw.safe_moves(jobs, some) or len(some) == sum(len(steps) + 1 for _, steps in jobs))
                nw.ahead_pairs(jobs, some)

    def test_endings_of_twelve(self):
        jobs = tuple(("shot", (("read", row), ("write", row * 2))) for row in "abcdefgh" + "ijkl")
        done = tuple(range(12))
        self.assertEqual(nw.how_many_endings(jobs, done), 479001600)
        self.assertEqual(nw.can_end(jobs, done), tuple(range(12)))


if __name__ == "__main__":
    unittest.main()
