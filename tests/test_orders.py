"""[7]: nosplit/orders.py, and its guarantees."""

import unittest
from itertools import combinations, permutations, product

import oracle
from nosplit import mixes as nm
from nosplit import orders as no
from nosplit import store
from nosplit.errors import CanNot, NoNumber
from samples import ADDS, EDGES, JOBS, MIX
from support import Case, small_jobs

SMALL = [jobs for jobs in small_jobs() if nm.how_many(jobs) <= 600]
LOST = (0, 1, 0, 0, 1, 1)
LOW = tuple(("plain", steps) for _, steps in ADDS)


def some_mixes(jobs, many=50):
    every = oracle.mixes(jobs)
    return every[::max(1, len(every) // many)]


def edge_sets():
    """Sets of EDGES over up to five numbers: all over three, some over more, with gaps, and below 0."""
    three = [(a, b, "x", "over") for a in (0, 1, 2) for b in (0, 1, 2) if a != b]
    for many in range(len(three) + 1):
        yield from combinations(three, many)
    five = [(a, b) for a in (-3, 0, 4, 9, 70) for b in (-3, 0, 4, 9, 70) if a != b]
    for code in range(7, 2 ** 20, 2 ** 20 // 60):
        yield tuple(pair + (row, kind) for at, pair in enumerate(five) if code >> at & 1
                    for row, kind in (("a", "missed"), ("b", "seen")))


def rings_of(edges):
    """All RINGS, by going through all tuples."""
    pairs = {(one, other) for one, other, _, _ in edges}
    nodes = sorted({node for pair in pairs for node in pair})
    return sorted(way for many in range(2, len(nodes) + 1) for way in permutations(nodes, many)
                  if way[0] == min(way) and all(pair in pairs for pair in zip(way, way[1:] + way[:1])))


def leads(edges):
    """All pairs (one, other) such that EDGES lead from one to other."""
    pairs = {(one, other) for one, other, _, _ in edges}
    while True:
        more = {(a, d) for a, b in pairs for c, d in pairs if b == c} - pairs
        if not more:
            return pairs
        pairs |= more


class Edges(Case):
    def test_against_the_oracle(self):
        for jobs in SMALL:
            for mix in some_mixes(jobs):
                told = no.edges(jobs, mix)
                self.assertEqual(told, tuple(sorted(oracle.edges(jobs, mix))))
                for order in permutations(range(len(jobs))):
                    self.assertEqual(no.broken_by(jobs, mix, order),
                                     tuple(edge for edge in told if order.index(edge[0]) > order.index(edge[1])))
        self.assertEqual((no.edges((), ()), no.broken_by((), (), ())), ((), ()))

    def test_each_clash_has_one_edge(self):
        for jobs in SMALL:
            clashes = [(a, b, row) for a, b in combinations(range(len(jobs)), 2) for one in jobs[a][1]
                       for other in jobs[b][1] if oracle.clash(one, other) for row in one[1:]]
            for mix in some_mixes(jobs, 12):
                self.assertEqual(len(no.edges(jobs, mix)), len(clashes))


class Rings(Case):
    def test_against_all_tuples(self):
        for edges in edge_sets():
            rings = rings_of(edges)
            self.assertEqual(no.all_rings(edges), rings)
            least = min(rings, key=lambda ring: (len(ring), ring)) if rings else None
            self.assertEqual(no.least_ring(edges), least)
            told = no.ring_in(edges)
            self.assertEqual(told is None, not rings)
            if rings:
                self.assertIn(told, rings)
                self.assertIs(no.is_ring(edges, told), True)
            together = leads(edges)
            nodes = sorted({node for edge in edges for node in edge[:2]})
            knots = {tuple(b for b in nodes if (a, b) in together and (b, a) in together) for a in nodes}
            self.assertEqual(no.knots(edges), tuple(sorted(knot for knot in knots if len(knot) > 1)))
            # A guarantee: a RING lies in one KNOT.
            for ring in rings:
                self.assertEqual(len([knot for knot in knots if set(ring) & set(knot)]), 1)

    def test_is_ring(self):
        for edges in [EDGES] + list(edge_sets())[::11]:
            rings, nodes = rings_of(edges), sorted({node for edge in edges for node in edge[:2]})[:4] + [5]
            for many in range(5):
                for thing in product(nodes, repeat=many):
                    self.assertIs(no.is_ring(edges, thing), thing in rings)

    def test_none(self):
        self.assertEqual((no.ring_in(()), no.least_ring(()), no.all_rings(()), no.knots(())), (None, None, [], ()))
        self.assertIs(no.is_ring((), ()), False)
        self.assertIs(no.is_ring((), (0, 1)), False)

    def test_a_longer_way_round(self):
        row = [(a, (a + 1) % 12, "x", "over") for a in range(12)] + [(11, 3, "y", "seen")]
        self.assertEqual(no.least_ring(sorted(row)), tuple(range(3, 12)))
        self.assertEqual(no.knots(sorted(row)), (tuple(range(12)),))
        self.assertEqual(no.ring_in([edge for edge in sorted(row) if edge[0] != 11]), None)


class Orders(Case):
    def test_against_all_orders(self):
        for jobs in SMALL:
            for mix in some_mixes(jobs, 30):
                self.check(jobs, mix)

    def check(self, jobs, mix):
        edges, every = no.edges(jobs, mix), list(permutations(range(len(jobs))))
        keep = [order for order in every if not no.broken_by(jobs, mix, order)]
        self.assertIs(no.is_straight(jobs, mix), oracle.is_straight(jobs, mix))
        self.assertEqual(no.straight_orders(jobs, mix), keep)
        self.assertEqual(no.how_many_orders(jobs, mix), len(keep))
        self.assertEqual([no.nth_order(jobs, mix, number) for number in range(len(keep))], keep)
        self.no_numbers(no.nth_order, len(keep), lambda number: (jobs, mix, number))
        self.assertEqual(no.least_order(jobs, mix), keep[0] if keep else None)
        for order in every:
            self.assertIs(no.is_straight_order(jobs, mix, order), order in keep)
        fewest = min(len(no.broken_by(jobs, mix, order)) for order in every)
        self.assertEqual(no.nearest_order(jobs, mix),
                         [order for order in every if len(no.broken_by(jobs, mix, order)) == fewest][0])
        self.check_pairs(jobs, mix, keep)
        self.check_spoilt(jobs, mix, edges)
        # Guarantees: which orders give the OUTCOME; straight exactly if there is no RING.
        for order in every:
            same = store.outcome(jobs, nm.whole_mix(jobs, order)) == store.outcome(jobs, mix)
            self.assertEqual(same, order in keep)
        self.assertEqual(no.ring_in(edges) is None, bool(keep))

    def check_pairs(self, jobs, mix, keep):
        if not keep:
            self.refuses(CanNot(), no.surely_ahead, jobs, mix)
            self.refuses(CanNot(), no.either_way, jobs, mix)
            return
        pairs = [(a, b) for a in range(len(jobs)) for b in range(len(jobs)) if a != b]
        surely = [(a, b) for a, b in pairs if all(order.index(a) < order.index(b) for order in keep)]
        self.assertEqual(no.surely_ahead(jobs, mix), tuple(surely))
        self.assertEqual(no.either_way(jobs, mix), tuple((a, b) for a, b in pairs if a < b and not {(a, b), (b, a)} & set(surely)))
        # A guarantee: so exactly if EDGES lead from the one to the other.
        self.assertEqual(set(surely), leads(no.edges(jobs, mix)))

    def check_spoilt(self, jobs, mix, edges):
        wanted, committed = None, []
        for move, place in enumerate(mix):
            if move == oracle.commit(jobs, mix, place) and wanted is None:
                committed.append(place)
                if rings_of([edge for edge in edges if edge[0] in committed and edge[1] in committed]):
                    wanted = move
        self.assertEqual(no.spoilt_at(jobs, mix), wanted)
        self.assertEqual(wanted is None, no.is_straight(jobs, mix))

    def test_what_is_no_order(self):
        for thing in ((), (0, 1), (0, 1, 2, 2), (0, 1, 1), (-1, 0, 1), (0, 1, 3), [2, 1, 0], None, (2, True, 0), (2, 1, None)):
            self.assertIs(no.is_straight_order(JOBS, MIX, thing), False)
        self.assertIs(no.is_straight_order(JOBS, MIX, (2, 1, 0)), True)
        self.assertIs(no.is_straight_order(JOBS, MIX, (0, 1, 2)), False)

    def test_not_straight(self):
        self.assertEqual((no.least_order(LOW, LOST), no.how_many_orders(LOW, LOST), no.straight_orders(LOW, LOST)),
                         (None, 0, []))
        self.refuses(NoNumber(0), no.nth_order, LOW, LOST, 0)
        self.assertEqual((no.spoilt_at(LOW, LOST), no.nearest_order(LOW, LOST)), (5, (0, 1)))
        self.refuses(CanNot(), no.surely_ahead, LOW, LOST)
        self.refuses(CanNot(), no.either_way, LOW, LOST)

    def test_no_jobs(self):
        self.assertEqual((no.is_straight((), ()), no.straight_orders((), ()), no.how_many_orders((), ())), (True, [()], 1))
        self.assertEqual((no.nth_order((), (), 0), no.least_order((), ()), no.nearest_order((), ())), ((), (), ()))
        self.assertEqual((no.surely_ahead((), ()), no.either_way((), ()), no.spoilt_at((), ())), ((), (), None))
        self.refuses(NoNumber(1), no.nth_order, (), (), 1)

    def test_rings_begin_with_missed_ones(self):
        # A guarantee: in each RING the EDGES to the JOB that commits first of it are all "missed".
        for jobs in SMALL:
            for mix in some_mixes(jobs, 40):
                edges = no.edges(jobs, mix)
                for ring in no.all_rings(edges):
                    first = min(ring, key=lambda place: oracle.commit(jobs, mix, place))
                    ahead = ring[ring.index(first) - 1]
                    self.assertEqual({kind for a, b, _, kind in edges if (a, b) == (ahead, first)}, {"missed"})


if __name__ == "__main__":
    unittest.main()
