"""[14]: nosplit/gaps.py, and its guarantees."""

import unittest
from itertools import chain, combinations, product

from nosplit import gaps
from support import Case, Lists
from test_ranges import SOME, random_ranges

ng = Lists(gaps)

KEYS = (2, 5, 9)
APART = (("shot", (("range", 3, 5),)), ("shot", (("write", 7), ("write", 1))))
ALL_KEYS = [some for many in range(4) for some in combinations(range(-1, 6), many)]
JOBS = [jobs for jobs in SOME if jobs] + [APART] + random_ranges(81, 40, 4, 3, 9) + random_ranges(82, 40, 3, 4, 7)


def cell_of(keys, number):
    above = [key for key in keys if key >= number]
    return (min(above),) if above else ()


def runs(numbers):
    found = []
    for number in sorted(numbers):
        if found and found[-1][1] == number - 1:
            found[-1] = (found[-1][0], number)
        else:
            found.append((number, number))
    return found


class Cells(Case):
    def test_against_the_definitions(self):
        for keys in ALL_KEYS:
            for number in range(-3, 8):
                self.assertEqual(ng.cell_of(keys, number), cell_of(keys, number))
            for low, high in product(range(-3, 8), repeat=2):
                cells = tuple(sorted({cell_of(keys, number) for number in range(low, high + 1)}))
                self.assertEqual(ng.touched(keys, low, high), cells)
                self.assertEqual(ng.barred_beside(keys, low, high), self.beside(keys, low, high, cells))

    def beside(self, keys, low, high, cells):
        # From -20 to 20: what ends there has no end.
        numbers = [number for number in range(-20, 21) if cell_of(keys, number) in cells and not low <= number <= high]
        return tuple((None if first == -20 else first, None if last == 20 else last) for first, last in runs(numbers))

    def test_bars_all(self):
        for keys in ALL_KEYS[::5]:
            every = sorted([(key,) for key in keys] + [()])
            for cells in chain.from_iterable(combinations(every, many) for many in range(len(every) + 1)):
                for low, high in product(range(-2, 7), repeat=2):
                    wanted = all(cell_of(keys, number) in cells for number in range(low, high + 1))
                    self.assertIs(ng.bars_all(keys, low, high, cells), wanted)
                    self.assertIs(ng.bars_all(list(keys), low, high, [list(cell) for cell in cells]), wanted)

    def test_edges(self):
        self.assertEqual((ng.cell_of((), 3), ng.touched((), -5, 5), ng.touched((), 5, -5)), ((), ((),), ()))
        self.assertEqual(ng.barred_beside((), 4, 6), ((None, 3), (7, None)))
        self.assertEqual(ng.barred_beside(KEYS, 6, 4), ())
        self.assertIs(ng.bars_all(KEYS, 6, 4, ()), True)
        self.assertIs(ng.bars_all(KEYS, 4, 6, ()), False)
        self.assertEqual((ng.cell_of(KEYS, -10 ** 9), ng.cell_of(KEYS, 10 ** 9)), ((2,), ()))
        self.assertEqual(ng.touched(KEYS, -10 ** 9, 10 ** 9), ((), (2,), (5,), (9,)))
        self.assertEqual(ng.barred_beside(KEYS, -10 ** 9, 10 ** 9), ((None, -10 ** 9 - 1), (10 ** 9 + 1, None)))
        self.assertEqual(ng.barred_beside((-7, -3), -5, -3), ((-6, -6),))
        self.assertEqual(ng.barred_beside((-7, -3), -6, -3), ())


def ranges_of(job):
    return [step[1:] for step in job[1] if step[0] == "range"]


def writes_of(job):
    return [step[1] for step in job[1] if step[0] == "write"]


def reads(job, number):
    return any(low <= number <= high for low, high in ranges_of(job))


def meet(one, other):
    return any(reads(a, number) or number in writes_of(a) for a, b in ((one, other), (other, one)) for number in writes_of(b))


def barred_for_nothing(keys, jobs):
    found = []
    for one, other in product(range(len(jobs)), repeat=2):
        if one != other and not meet(jobs[one], jobs[other]):
            cells = {cell_of(keys, number) for low, high in ranges_of(jobs[one]) for number in range(low, high + 1)}
            if any(cell_of(keys, number) in cells for number in writes_of(jobs[other])):
                found.append((one, other))
    return tuple(found)


def stretches(keys, jobs):
    found = set()
    for one, other in product(jobs, repeat=2):
        if one is not other and not meet(one, other):
            for (low, high), number in product(ranges_of(one), writes_of(other)):
                first, last = (high, number - 1) if number > high else (number, low - 1)
                if not any(key in keys for key in range(first, last + 1)):
                    found.add((first, last))
    return found


def fences(keys, jobs, most=4):
    """Of the fewest numbers that leave nobody barred for nothing the least; None if more than so many are needed."""
    numbers = range(-4, 13)
    for many in range(most + 1):
        for some in combinations(numbers, many):
            if not barred_for_nothing(tuple(sorted(set(keys + some))), jobs):
                return some
    return None


class Barred(Case):
    def test_against_the_definitions(self):
        for at, jobs in enumerate(JOBS):
            for keys in ((), KEYS, ALL_KEYS[at % len(ALL_KEYS)], ALL_KEYS[7 * at % len(ALL_KEYS)]):
                pairs = product(range(len(jobs)), repeat=2)
                self.assertEqual(ng.phantoms(keys, jobs), tuple((one, other) for one, other in pairs if one != other and any(
                    number not in keys and reads(jobs[one], number) for number in writes_of(jobs[other]))))
                self.assertEqual(ng.barred_for_nothing(keys, jobs), barred_for_nothing(keys, jobs))

    def test_fences(self):
        for at, jobs in enumerate(JOBS):
            jobs = tuple((level, tuple(steps)) for level, steps in jobs)
            for keys in ((), KEYS, ALL_KEYS[3 * at % len(ALL_KEYS)]):
                told, wanted = ng.fences(keys, jobs), fences(keys, jobs)
                if wanted is None:
                    self.assertGreater(len(told), 4)
                    self.assertEqual(barred_for_nothing(tuple(sorted(keys + told)), jobs), ())
                else:
                    self.assertEqual(told, wanted)
                self.check_paper(keys, jobs, len(told))

    def check_paper(self, keys, jobs, many):
        # A guarantee: as many stretches without a key, no two with a number in common, as the fewest fences.
        paper, every = ng.fence_paper(keys, jobs), stretches(keys, [tuple(job) for job in jobs])
        self.assertEqual(len(paper), many)
        self.assertEqual(paper, tuple(sorted(paper)))
        self.assertLessEqual(set(paper), every)
        self.assertTrue(all(one[1] < other[0] for one, other in zip(paper, paper[1:])))
        self.assertIs(ng.is_fence_paper(keys, jobs, paper), True)
        self.assertEqual(ng.fence_paper(list(keys), [list(job) for job in jobs]), paper)
        for thing in combinations(sorted(every)[:8], many):
            wanted = all(one[1] < other[0] for one, other in zip(thing, thing[1:]))
            self.assertIs(ng.is_fence_paper(keys, jobs, thing), wanted)
            self.assertIs(ng.is_fence_paper(keys, jobs, thing + ((50, 51),)), False)

    def test_far_apart(self):
        far = (("plain", (("range", -10 ** 9, -5),)), ("plain", (("write", 10 ** 9), ("write", 7))))
        self.assertEqual(ng.barred_for_nothing((), far), ((0, 1),))
        self.assertEqual((ng.fences((), far), ng.fence_paper((), far)), ((-5,), ((-5, 6),)))
        self.assertEqual((ng.fences((8,), far), ng.fences((6,), far)), ((-5,), ()))

    def test_the_least_fences(self):
        # 5 is enough for what lies above both ranges: the least number that is, is the greater one of their ends.
        jobs = (("shot", (("range", 0, 2), ("range", 4, 5))), ("shot", (("write", 9),)), ("shot", (("write", -3),)))
        self.assertEqual(ng.fences((), jobs), (-3, 5))
        self.assertEqual(fences((), jobs), (-3, 5))

    def test_what_is_no_paper(self):
        self.assertIs(ng.is_fence_paper((2, 9), APART, ((5, 6),)), True)
        for thing in (None, (), ((5, 5),), ((5, 6), (5, 6)), [(5, 6)], ([5, 6],), ((5, 6, 7),), ((5, True),), (5, 6), ((1, 2),), "56",
                      ((5, None),), ((5, 6), None)):
            self.assertIs(ng.is_fence_paper((2, 9), APART, thing), False)

    def test_no_jobs_and_no_keys(self):
        self.assertEqual((ng.phantoms((), ()), ng.barred_for_nothing((), ()), ng.fences((), ()), ng.fence_paper((), ())),
                         ((), (), (), ()))
        self.assertIs(ng.is_fence_paper((), (), ()), True)
        self.assertEqual(ng.phantoms((), APART[:1] * 2), ())


if __name__ == "__main__":
    unittest.main()
