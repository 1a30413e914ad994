"""[15]: nosplit/smooth.py, and its guarantee over all kept BEGINNINGS."""

import unittest
from itertools import combinations_with_replacement, product

import oracle
from nosplit import smooth
from support import Case, Lists, random_jobs, small_jobs
from test_waits import GATE, JOBS, TWINS, Store

nk = Lists(smooth)
GIVINGS = {many: list(product(("plain", "shot"), repeat=many)) for many in range(5)}


def rows_ahead(jobs, place, number):
    return {row for kind, row in jobs[place][1][:number] if kind == "write"}


def is_jam(jobs, pairs):
    """Pairs of a place and a number, whatever they are."""
    places = [place for place, _ in pairs]
    if list(pairs) != sorted(set(pairs)) or len(pairs) < 2 or len(set(places)) < len(places):
        return False
    if not all(0 <= place < len(jobs) and 0 <= number < len(jobs[place][1]) for place, number in pairs):
        return False
    for place, number in pairs:
        others = [pair for pair in pairs if pair[0] != place]
        if any(rows_ahead(jobs, place, number) & rows_ahead(jobs, *pair) for pair in others):
            return False
        kind, row = jobs[place][1][number]
        if kind == "read" or not any(row in rows_ahead(jobs, *pair) for pair in others):
            return False
    return True


def all_jams(jobs):
    """By number of pairs, then ascending."""
    found = []
    for numbers in product(*[(None,) + tuple(range(len(steps))) for _, steps in jobs]):
        pairs = tuple((place, number) for place, number in enumerate(numbers) if number is not None)
        if is_jam(jobs, pairs):
            found.append(pairs)
    return sorted(found, key=lambda jam: (len(jam), jam))


def is_bare(jobs, place):
    steps = jobs[place][1]
    for kind, row in steps[1:]:
        for other, (_, line) in enumerate(jobs):
            if kind == "write" and other != place and ("write", row) in line:
                gate = steps[0][1]
                gated = (steps[0][0] == "write" and ("write", gate) in line
                         and line.index(("write", gate)) < line.index(("write", row)))
                if not gated:
                    return True
    return False


def writers(rows, most, many):
    """STEPS of so many JOBS that write only."""
    lines = [line for line in oracle.steps_of_rows(rows, most) if all(kind == "write" for kind, _ in line)]
    return list(combinations_with_replacement(lines, many))


def some_steps():
    lines = [line for line in oracle.steps_of_rows("ab", 3) if any(kind == "write" for kind, _ in line)]
    found = list(combinations_with_replacement(lines, 2))
    found += writers("abc", 3, 2) + writers("abc", 2, 3)[::5] + writers("abcd", 2, 3)[::40]
    drawn = random_jobs(19, 30, "abc", 3, 3)
    found += [tuple(steps for _, steps in jobs) for jobs in drawn if sum(len(steps) for _, steps in jobs) <= 5]
    return found + [tuple(steps for _, steps in jobs) for jobs in (JOBS, TWINS, GATE, GATE + TWINS[:1])]


class Smooth(Case):
    def test_over_all_kept_beginnings(self):
        for steps in some_steps():
            smooth_ones, levels = [], nk.smooth_levels(oracle.at_levels(steps, ("plain",) * len(steps)))
            for giving in GIVINGS[len(steps)]:
                jobs = oracle.at_levels(steps, giving)
                store = Store(jobs)
                with self.subTest(jobs=jobs):
                    # From () on all kept BEGINNINGS are gone through, till one is found that no MIX goes on with.
                    wanted = all(store.through(done)[1] for done in store.beginnings())
                    self.assertIs(nk.is_smooth(jobs), wanted)
                    if wanted:
                        smooth_ones.append(giving)
                    self.check_stumble(jobs, store, wanted)
                    self.assertEqual(nk.smooth_levels(jobs), levels)
            below = [giving for giving in GIVINGS[len(steps)] if levels is not None
                     and all(level == "plain" or top != "plain" for level, top in zip(giving, levels))]
            self.assertEqual(smooth_ones, below)

    def check_stumble(self, jobs, store, is_smooth):
        told = nk.stumble(jobs)
        self.assertEqual(told is None, is_smooth)
        self.assertEqual(nk.stumble([list(job) for job in jobs]), told)
        self.assertEqual(nk.is_stumble(jobs, told), told is not None)
        if told is not None:
            self.assertIn(told, store.beginnings())
            self.assertFalse(store.through(told)[1])

    def test_all_stumbles(self):
        for jobs in (JOBS[:2], TWINS, GATE, (("plain", (("write", "a"),)), ("shot", (("read", "b"), ("write", "a"))))):
            store = Store(jobs)
            every = store.beginnings()
            for many in range(7):
                for thing in product(range(-1, len(jobs) + 1), repeat=many):
                    self.assertIs(nk.is_stumble(jobs, thing), thing in every and not store.through(thing)[1])

    def test_watched_as_shot(self):
        for jobs in small_jobs()[::5]:
            raised = tuple(("watched" if level == "shot" else level, steps) for level, steps in jobs)
            self.assertIs(nk.is_smooth(raised), nk.is_smooth(jobs))
            self.assertEqual(nk.stumble(raised), nk.stumble(jobs))
            levels = nk.smooth_levels(jobs)
            self.assertTrue(levels is None or set(levels) <= {"plain", "watched"})

    def test_jams(self):
        several = random_jobs(17, 40, "abc", 3, 4) + random_jobs(18, 12, "abcd", 4, 4) + [jobs for jobs in small_jobs()[::3]]
        several += [oracle.at_levels(steps, ("shot",) * 3) for steps in writers("abc", 3, 3)[::31]]
        for jobs in several:
            with self.subTest(jobs=jobs):
                jams = all_jams(jobs)
                self.assertEqual(nk.least_jam(jobs), jams[0] if jams else None)
                self.assertTrue(all(nk.is_jam(jobs, jam) for jam in jams))
                self.assertEqual(nk.bare_jobs(jobs), tuple(place for place in range(len(jobs)) if is_bare(jobs, place)))

    def test_all_pairs(self):
        for jobs in (JOBS, GATE, (("plain", (("write", "a"), ("write", "b"))), ("shot", (("write", "a"),)),
                                  ("plain", (("write", "b"), ("write", "a"))))):
            pairs = list(product(range(-1, len(jobs) + 1), range(-1, 4)))
            for many in range(4):
                for thing in product(pairs, repeat=many) if many < 3 else combinations_with_replacement(pairs, 3):
                    self.assertIs(nk.is_jam(jobs, thing), is_jam(jobs, thing))

    def test_who_holds_nothing_may_stand_in_a_jam(self):
        jobs = JOBS[:2] + (("plain", (("write", "a"),)),)
        self.assertIs(nk.is_jam(jobs, ((0, 1), (1, 1), (2, 0))), True)
        self.assertIs(nk.is_jam(jobs, ((0, 1), (2, 0))), False)
        self.assertEqual(nk.least_jam(jobs), ((0, 1), (1, 1)))

    def test_reads_wait_for_nobody(self):
        jobs = (("plain", (("write", "x"), ("write", "y"))), ("plain", (("write", "y"), ("read", "x"), ("write", "x"))))
        self.assertIs(nk.is_jam(jobs, ((0, 1), (1, 1))), False)
        self.assertIs(nk.is_jam(jobs, ((0, 1), (1, 2))), True)

    def test_no_two_hold_one_row(self):
        jobs = (("plain", (("write", "x"), ("write", "z"), ("write", "y"))), ("plain", (("write", "y"), ("write", "z"), ("write", "x"))))
        self.assertIs(nk.is_jam(jobs, ((0, 2), (1, 2))), False)
        self.assertIs(nk.is_jam(jobs, ((0, 2), (1, 1))), True)
        self.assertEqual(nk.least_jam(jobs), ((0, 1), (1, 2)))

    def test_what_is_no_jam(self):
        for thing in (None, (), [(0, 1), (1, 1)], ((1, 1), (0, 1)), ((0, 1),), ((0, 1), (0, 1)), ((0, True), (1, 1)), ((0, 1), [1, 1]),
                      ((0, 1, 0), (1, 1, 0)), ((0, 1), (1, 2)), ((0, 1), (1, None)), "jam", ((0, 0), (1, 0)), ((0, 1), (3, 1))):
            self.assertIs(nk.is_jam(JOBS, thing), False)

    def test_rings_of_three(self):
        ring = tuple(("plain", (("write", one), ("write", other))) for one, other in ("ab", "bc", "ca"))
        self.assertEqual(nk.least_jam(ring), ((0, 1), (1, 1), (2, 1)))
        self.assertEqual(nk.smooth_levels(ring), None)
        self.assertEqual((nk.least_jam(ring[:2]), nk.is_smooth(ring[:2]), nk.bare_jobs(ring[:2])), (None, True, (0,)))
        self.assertEqual(nk.smooth_levels(ring[:2]), ("plain", "watched"))
        self.assertIs(nk.is_smooth((("shot", ring[0][1]), ring[1])), False)

    def test_edges(self):
        self.assertEqual((nk.least_jam(()), nk.bare_jobs(()), nk.is_smooth(()), nk.stumble(()), nk.smooth_levels(())),
                         (None, (), True, None, ()))
        empty = (("watched", ()), ("plain", ()), ("shot", (("write", "a"),)))
        self.assertEqual((nk.least_jam(empty), nk.bare_jobs(empty), nk.is_smooth(empty), nk.stumble(empty)), (None, (), True, None))
        self.assertEqual(nk.smooth_levels(empty), ("watched",) * 3)
        self.assertIs(nk.is_stumble(empty, ()), False)

    def test_the_first_step_alone_is_never_bare(self):
        one = (("shot", (("write", "a"),)), ("shot", (("write", "a"), ("read", "b"))), ("plain", (("read", "b"), ("write", "a"))))
        self.assertEqual(nk.bare_jobs(one), (2,))
        self.assertEqual(nk.smooth_levels(one), ("watched", "watched", "plain"))
        # A gate written behind the ROW is none.
        late = (GATE[0], ("plain", (("write", "a"), ("write", "g"))))
        self.assertEqual((nk.bare_jobs(late), nk.least_jam(late)), ((0, 1), ((0, 1), (1, 1))))


if __name__ == "__main__":
    unittest.main()
