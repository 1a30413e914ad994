"""[14]: nosplit/ranges.py, and its guarantees."""

import random
import unittest
from itertools import permutations, product

import oracle
from nosplit import ranges
from nosplit import splits
from support import Case, Lists

nr = Lists(ranges)

LOOK, BOTH = ("plain", (("range", 1, 2),)), ("plain", (("write", 1), ("write", 2)))
TWICE = (("plain", (("range", 1, 1), ("range", 2, 4))), BOTH)
PAIR = (("shot", (("range", 0, 5), ("write", 3))), ("shot", (("range", 0, 5), ("write", 4))))
BLIND = (("shot", (("range", 7, 9), ("range", 1, 3))), ("plain", (("write", 2),)))


def is_line(line):
    read, written = [], []
    for step in line:
        numbers = list(range(step[1], step[2] + 1)) if step[0] == "range" else [step[1]]
        if step[0] == "range" and (not numbers or any(number in read + written for number in numbers)):
            return False
        if step[0] == "write" and step[1] in written:
            return False
        (read if step[0] == "range" else written).extend(numbers)
    return True


def random_ranges(seed, count, many, most, top):
    chance, found = random.Random(seed), []
    for _ in range(count):
        jobs = []
        for _ in range(chance.randint(1, many)):
            wanted, line = chance.randint(0, most), ()
            for _ in range(9):
                low = chance.randint(-1, top)
                step = ("write", low) if chance.random() < 0.5 else ("range", low, low + chance.randint(0, 2))
                if len(line) < wanted and is_line(line + (step,)):
                    line = line + (step,)
            jobs.append((chance.choice(oracle.LEVELS), line))
        found.append(tuple(jobs))
    return found


def written_by(jobs, place):
    return [step[1] for step in jobs[place][1] if step[0] == "write"]


def written(jobs):
    return sorted({number for place in range(len(jobs)) for number in written_by(jobs, place)})


def read_by(jobs, place, steps=None):
    """The written numbers that these steps, or all of this RANGE JOB, read."""
    steps = jobs[place][1] if steps is None else steps
    return [number for number in written(jobs) if any(
        step[0] == "range" and step[1] <= number <= step[2] for step in steps)]


def mixes(jobs):
    return oracle.mixes(tuple((level, steps) for level, steps in jobs))


def versions(jobs, mix, number, move):
    there = [place for place in range(len(jobs)) if number in written_by(jobs, place) and oracle.commit(jobs, mix, place) < move]
    return [None] + sorted(there, key=lambda place: oracle.commit(jobs, mix, place))


def seen(jobs, mix, place):
    """Pairs of a number and whose version of it is seen, range by range."""
    found = []
    for step, told in enumerate(jobs[place][1]):
        if told[0] == "range":
            move = oracle.moves(jobs, mix, place)[step] if jobs[place][0] == "plain" else oracle.begin(jobs, mix, place)
            found += [(number, versions(jobs, mix, number, move)[-1]) for number in read_by(jobs, place, [told])]
    return found


def outcome(jobs, mix):
    return (tuple(tuple(one for _, one in seen(jobs, mix, place)) for place in range(len(jobs))),
            tuple((number, tuple(versions(jobs, mix, number, len(mix))[1:])) for number in written(jobs)))


def wholes(jobs):
    return [outcome(jobs, oracle.whole(jobs, order)) for order in permutations(range(len(jobs)))]


def breaks_w(jobs, mix, place, step):
    move, number = oracle.moves(jobs, mix, place)[step], jobs[place][1][step][1]
    for other in range(len(jobs)):
        if other != place and number in written_by(jobs, other):
            write = oracle.moves(jobs, mix, other)[list(jobs[other][1]).index(("write", number))]
            end = oracle.commit(jobs, mix, other)
            if write < move < end or jobs[place][0] != "plain" and oracle.begin(jobs, mix, place) < end < move:
                return True
    return False


def has_pinch(jobs, mix):
    for x, j, y in product(range(len(jobs)), repeat=3):
        if j in (x, y) or any(jobs[place][0] != "watched" for place in (x, j, y)):
            continue
        ends = [oracle.commit(jobs, mix, place) for place in (x, j, y)]
        misses = [any(number in written_by(jobs, other) and told != other for number, told in seen(jobs, mix, one))
                  for one, other in ((x, j), (j, y))]
        if (oracle.beside(jobs, mix, x, j) and oracle.beside(jobs, mix, j, y) and all(misses)
                and ends[2] < ends[1] and (x == y or ends[2] < ends[0])):
            return True
    return False


def is_let(jobs, mix):
    writes = [(place, step) for place in range(len(jobs)) for step, told in enumerate(jobs[place][1]) if told[0] == "write"]
    return not any(breaks_w(jobs, mix, place, step) for place, step in writes) and not has_pinch(jobs, mix)


def do_touch(jobs, one, other):
    """The numbers that both touch, one of them writing."""
    mine, theirs = read_by(jobs, one) + written_by(jobs, one), read_by(jobs, other) + written_by(jobs, other)
    return sorted({number for number in mine if number in theirs and number in written_by(jobs, one) + written_by(jobs, other)})


def steps_clash(jobs, steps, other):
    for step in steps:
        if step[0] == "range" and set(read_by(jobs, None, [step])) & set(written_by(jobs, other)):
            return True
        if step[0] == "write" and step[1] in read_by(jobs, other) + written_by(jobs, other):
            return True
    return False


def is_split(jobs, head, place, others):
    level, steps = jobs[head]
    if steps[place][0] != "range":
        return False
    kept = {step[1] for step in (steps[:place] if level == "plain" else steps) if step[0] == "write"}
    mine, last = written_by(jobs, head), others[-1]
    one = set(read_by(jobs, head, [steps[place]])) & set(written_by(jobs, others[0]))
    two = all(do_touch(jobs, a, b) for a, b in zip(others, others[1:]))
    three = set(read_by(jobs, last)) & set(mine) or level == "plain" and steps_clash(jobs, steps[place + 1:], last)
    four = not any(set(written_by(jobs, other)) & kept for other in others)
    five = not any(level == jobs[x][0] == jobs[y][0] == "watched" and set(written_by(jobs, x)) & set(read_by(jobs, head))
                   and set(read_by(jobs, y)) & set(mine) for at, x in enumerate(others) for y in others[at:])
    return bool(one and two and three and four and five)


def all_splits(jobs):
    found = []
    for head, (_, steps) in enumerate(jobs):
        rest = [other for other in range(len(jobs)) if other != head]
        found += [(head, place, others) for place in range(len(steps)) for many in range(1, len(jobs))
                  for others in permutations(rest, many) if is_split(jobs, head, place, others)]
    return found


SOME = [(), (LOOK,), (LOOK, BOTH), TWICE, PAIR, BLIND, (("watched",) + PAIR[0][1:], ("watched",) + PAIR[1][1:])]
SOME += random_ranges(71, 160, 2, 3, 4) + random_ranges(72, 60, 3, 3, 5) + random_ranges(73, 20, 4, 3, 5)


class Kinds(Case):
    def test_is_range_jobs(self):
        for jobs in SOME:
            self.assertIs(nr.is_range_jobs(jobs), True)
        step, far = ("range", 0, 3), ("range", -10 ** 40, 10 ** 40)
        for line in ((step, ("write", 3)), (far, ("write", 5)), (("range", 4, 6), step), (("write", 4), step), ()):
            self.assertIs(nr.is_range_jobs((("shot", line),)), True)
        for line in ((step, step), (step, ("range", 3, 3)), (("write", 3), step), (("write", 1), ("write", 1)), (far, step),
                     (("range", 1, 0),), (("range", 1),), (("write", 1, 2),), (("read", 1),), (("range", 0, True),),
                     (("write", None),), (["write", 1],), (("write", "1"),), (("range", 0, 1, 2),), ((),), (None,),
                     (("write", 2), ("range", 9, 9), step),
                     (("range", 5, 5), step, ("range", 2, 9)), [step], "", None):
            self.assertIs(nr.is_range_jobs((("shot", line),)), False)
        for thing in (None, [], ("shot", ()), ((None, ()),), ((True, ()),), (("shot", (), ()),), (["shot", ()],), [("shot", ())], 0):
            self.assertIs(nr.is_range_jobs(thing), False)
        many = tuple(("write", number) for number in range(2000))
        many += tuple(("range", -2 * number, -2 * number) for number in range(1, 900))
        self.assertIs(nr.is_range_jobs((("plain", many),) * 3), True)
        self.assertIs(nr.is_range_jobs((("plain", many + (("range", 1999, 2001),)),)), False)

    def test_all_short_lines(self):
        steps = [("range", low, high) for low in range(3) for high in range(3)] + [("write", number) for number in range(3)]
        for many in range(4):
            for line in product(steps, repeat=many):
                self.assertIs(nr.is_range_jobs((("plain", line),)), is_line(line))

    def test_as_jobs(self):
        for jobs in SOME:
            numbers = written(jobs)
            self.assertEqual(nr.written(jobs), tuple(numbers))
            wanted = []
            for place, (level, steps) in enumerate(jobs):
                line = []
                for step in steps:
                    row = [("read", "abcdefgh"[numbers.index(number)]) for number in read_by(jobs, place, [step])]
                    line += row if step[0] == "range" else [("write", "abcdefgh"[numbers.index(step[1])])]
                wanted.append((level, tuple(line)))
            self.assertEqual(nr.as_jobs(jobs), tuple(wanted))

    def test_is_range_mix(self):
        for jobs in (BLIND, (LOOK,)):
            every = mixes(jobs)
            for many in range(6):
                for thing in product(range(-1, 3), repeat=many):
                    self.assertIs(nr.is_range_mix(jobs, thing), thing in every)
        for thing in (None, [0, 0], (0, False), (0, 0, 0), "00"):
            self.assertIs(nr.is_range_mix((LOOK,), thing), False)
        self.assertIs(nr.is_range_mix((), ()), True)


class Run(Case):
    def test_against_the_definitions(self):
        for jobs in SOME:
            every, outcomes = mixes(jobs) if len(jobs) < 4 else [], wholes(jobs)
            for mix in every[::max(1, len(every) // 12)]:
                told = outcome(jobs, mix)
                with self.subTest(jobs=jobs, mix=mix):
                    self.assertEqual(nr.range_outcome(jobs, mix), told)
                    self.assertIs(nr.is_let_by_ranges(jobs, mix), is_let(jobs, mix))
                    self.assertIs(nr.is_straight_by_ranges(jobs, mix), told in outcomes)
                    self.assertIs(nr.is_bad_range_mix(jobs, mix), is_let(jobs, mix) and told not in outcomes)

    def test_a_range_in_which_nobody_writes(self):
        # The first move is such a range: with it the shot one begins, ahead of the write that it does not see.
        mix = (0, 1, 1, 0, 0)
        self.assertEqual(nr.range_outcome(BLIND, mix), (((None,), ()), ((2, (1,)),)))
        self.assertEqual(nr.range_outcome((("plain",) + BLIND[0][1:], BLIND[1]), mix), (((1,), ()), ((2, (1,)),)))
        late = (("shot", (("range", 7, 9), ("write", 2))), BLIND[1])
        self.assertIs(nr.is_let_by_ranges(late, mix), False)
        self.assertIs(nr.is_let_by_ranges(late, (1, 1, 0, 0, 0)), True)

    def test_a_range_is_read_at_one_move(self):
        self.assertIs(nr.are_safe_ranges((LOOK, BOTH)), True)
        self.assertIs(splits.safe(nr.as_jobs((LOOK, BOTH))), False)
        self.assertIs(nr.are_safe_ranges(TWICE), False)
        self.assertEqual(nr.range_split(TWICE), (0, 0, (1,)))

    def test_what_is_no_bad_mix(self):
        for thing in (None, (), [0, 1, 1, 1, 0, 0], (0, 1, 1, 1, 0), (0, True, 1, 1, 0, 0), (0, 1, 1, 1, 0, 9), (0, 0, 0, 1, 1, 1)):
            self.assertIs(nr.is_bad_range_mix(TWICE, thing), False)
        self.assertIs(nr.is_bad_range_mix(TWICE, (0, 1, 1, 1, 0, 0)), True)


class Split(Case):
    def test_against_the_definitions(self):
        for jobs in SOME:
            every, told = all_splits(jobs), nr.range_split(jobs)
            with self.subTest(jobs=jobs):
                self.assertIs(nr.are_safe_ranges(jobs), not every)
                self.assertEqual(told is None, not every)
                if every:
                    self.assertIn(told, every)
                self.assertEqual(nr.range_split([list(job) for job in jobs]), told)
                for head, place, others in every:
                    self.assertIs(nr.is_range_split(jobs, (head, place, others)), True)
                    first = [number for number in read_by(jobs, head, [jobs[head][1][place]]) if number in written_by(jobs, others[0])]
                    last = [number for number in read_by(jobs, others[-1]) if number in written_by(jobs, head)]
                    between = [tuple(do_touch(jobs, a, b)) for a, b in zip(others, others[1:])]
                    self.assertEqual(nr.split_numbers(jobs, (head, place, others)), (tuple(first), *between, tuple(last)))
                self.check_mix(jobs, every)
                # Guarantees: if as_jobs are safe they are; the other way as well if none is plain.
                safe = splits.safe(nr.as_jobs(jobs))
                self.assertTrue(not every or not safe)
                if all(level != "plain" for level, _ in jobs):
                    self.assertEqual(not every, safe)

    def check_mix(self, jobs, every):
        mix = nr.bad_range_mix(jobs)
        self.assertEqual(mix is None, not every)
        if mix is not None:
            self.assertEqual(sorted(mix), sorted(place for place, (_, steps) in enumerate(jobs) for _ in range(len(steps) + 1)))
            self.assertTrue(is_let(jobs, mix) and outcome(jobs, mix) not in wholes(jobs))
            self.assertIs(nr.is_bad_range_mix(jobs, mix), True)
            self.assertEqual(nr.bad_range_mix([list(job) for job in jobs]), mix)

    def test_all_triples(self):
        for jobs in [jobs for jobs in SOME if len(jobs) in (2, 3)][::9] + [TWICE, PAIR]:
            every, places = all_splits(jobs), range(-1, len(jobs) + 1)
            for others in [others for many in range(4) for others in product(places, repeat=many)]:
                for head, place in product(places, range(-1, 4)):
                    thing = (head, place, others)
                    self.assertIs(nr.is_range_split(jobs, thing), thing in every)

    def test_numbers_of_three_others(self):
        jobs = (("shot", (("range", 1, 5), ("write", 9))), ("shot", (("write", 4), ("write", 7), ("write", 6), ("write", 2))),
                ("shot", (("range", 8, 8), ("range", 5, 7), ("write", 3))), ("shot", (("range", 0, 3), ("range", 9, 9))))
        split = (0, 0, (1, 2, 3))
        self.assertIs(nr.is_range_split(jobs, split), True)
        self.assertEqual(nr.split_numbers(jobs, split), ((2, 4), (6, 7), (3,), (9,)))
        both = (jobs[0], ("shot", (("write", 4), ("range", 5, 7))), ("shot", (("range", 4, 4), ("write", 7), ("write", 6))), jobs[3])
        self.assertEqual(nr.split_numbers(both[:3] + (("shot", (("write", 6), ("range", 9, 9))),), (0, 0, (1, 2, 3))),
                         ((4,), (4, 6, 7), (6,), (9,)))

    def test_what_is_no_split(self):
        for thing in (None, (), [0, 0, (1,)], (0, 0, [1]), (False, 0, (1,)), (0, False, (1,)), (0, 0, (True,)), (0, 0), (0, 0, 1),
                      (0, 0, (1,), 0), ((0,), 0, (1,)), ("0", 0, (1,)), (0, 1, (1,)), (1, 0, (0,))):
            self.assertIs(nr.is_range_split(TWICE, thing), False)

    def test_safe_by_all_mixes(self):
        # A guarantee.
        for jobs in SOME:
            every = mixes(jobs) if sum(len(steps) for _, steps in jobs) + len(jobs) <= 8 else []
            outcomes = wholes(jobs) if every else []
            if every:
                bad = [mix for mix in every if outcome(jobs, mix) not in outcomes and is_let(jobs, mix)]
                self.assertEqual(nr.are_safe_ranges(jobs), not bad)


if __name__ == "__main__":
    unittest.main()
