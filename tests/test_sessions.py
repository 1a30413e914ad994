"""[13]: nosplit/sessions.py, and its guarantees."""

import unittest
from itertools import combinations, permutations, product

import oracle
from nosplit import levels as nl
from nosplit import sessions
from nosplit import splits
from nosplit.errors import NoNumber, Unfit
from support import Case, Lists, family, random_jobs, small_jobs

ns = Lists(sessions)

HAND = (("shot", (("read", "a"), ("write", "b"))), ("shot", (("write", "a"),)), ("shot", (("read", "b"),)))
SKEW = (("shot", (("read", "x"), ("write", "y"))), ("shot", (("read", "y"), ("write", "x"))))
FOUR = HAND + (("plain", (("read", "a"), ("read", "b"), ("write", "c"))),)


def closure(jobs, ahead):
    """The set of the pairs (one, other) of whom one leads the other."""
    found = set(ahead)
    for middle, one, other in product(range(len(jobs)), repeat=3):
        if (one, middle) in found and (middle, other) in found:
            found.add((one, other))
    return found


def is_ahead(jobs, pairs):
    return not any((place, place) in closure(jobs, pairs) for place in range(len(jobs)))


def all_aheads(jobs, most):
    pairs = list(permutations(range(len(jobs)), 2))
    return [some for many in range(most + 1) for some in combinations(pairs, many) if is_ahead(jobs, some)]


def subsets(parts):
    return [some for many in range(len(parts) + 1) for some in combinations(parts, many)]


def short_mixes(jobs):
    """All short MIXES, for each set of JOBS that come."""
    found = []
    for come in subsets(range(len(jobs))):
        part = tuple(jobs[place] for place in come)
        found += [tuple(come[place] for place in mix) for mix in oracle.mixes(part)]
    return found


def alone(jobs, mix):
    come = sorted(set(mix))
    return come, tuple(jobs[place] for place in come), tuple(come.index(place) for place in mix)


def is_let(jobs, mix):
    _, part, moves = alone(jobs, mix)
    return oracle.is_let(part, moves)


def keeps(jobs, ahead, mix):
    pairs = [pair for pair in closure(jobs, ahead) if pair[0] in mix and pair[1] in mix]
    return all(oracle.commit(jobs, mix, one) < oracle.begin(jobs, mix, other) for one, other in pairs)


def rows_by(jobs, ahead, mix):
    come, part, moves = alone(jobs, mix)
    told, leading = oracle.outcome(part, moves), closure(jobs, ahead)
    return [tuple(come[place] for place in row) for row in permutations(range(len(come)))
            if oracle.outcome(part, oracle.whole(part, row)) == told
            and not any((come[row[later]], come[row[at]]) in leading for at, later in combinations(range(len(row)), 2))]


def is_safe(jobs, ahead):
    """By all short MIXES."""
    return all(rows_by(jobs, ahead, mix) for mix in short_mixes(jobs) if keeps(jobs, ahead, mix) and is_let(jobs, mix))


def is_split(jobs, leading, head, place, others):
    """As oracle.is_split tells a SPLIT, but for who is led."""
    level, steps = jobs[head]
    kept = {row for kind, row in (steps[:place] if level == "plain" else steps) if kind == "write"}
    read, written = oracle.rows(jobs, head, "read"), oracle.rows(jobs, head, "write")
    if steps[place][1] not in oracle.rows(jobs, others[0], "write"):
        return False
    last = others[-1]
    if not oracle.rows(jobs, last, "read") & written and not (
            level == "plain" and any(oracle.clash(a, b) for a in steps[place + 1:] for b in jobs[last][1])):
        return False
    if any(oracle.rows(jobs, other, "write") & kept or (other, head) in leading or (head, other) in leading for other in others):
        return False
    if not all(oracle.do_clash(jobs, a, b) or (a, b) in leading for a, b in zip(others, others[1:])):
        return False
    for at, x in enumerate(others):
        if any((x, front) in leading for front in others[:at]):
            return False
        for y in others[at:]:
            if (level == jobs[x][0] == jobs[y][0] == "watched" and oracle.rows(jobs, x, "write") & read
                    and oracle.rows(jobs, y, "read") & written):
                return False
    return True


def all_splits(jobs, ahead):
    leading, found = closure(jobs, ahead), []
    for head in range(len(jobs)):
        rest = [other for other in range(len(jobs)) if other != head]
        for place, _ in oracle.reads(jobs, head):
            found += [(head, place, others) for many in range(1, len(jobs)) for others in permutations(rest, many)
                      if is_split(jobs, leading, head, place, others)]
    return found


# A ring of three is told ahead of one of two.
RING = (("shot", (("read", "a"), ("write", "b"))), ("shot", (("write", "a"), ("write", "c"))),
        ("shot", (("read", "c"), ("read", "b"))))

SMALL = [jobs for jobs in small_jobs() if len(jobs) <= 3][::2] + [HAND, SKEW]
SOME = SMALL + [FOUR, RING + SKEW] + random_jobs(61, 20, "abc", 3, 3) + random_jobs(62, 20, "abc", 4, 2)
SOME += random_jobs(63, 6, "abcd", 5, 2)


def some_pairs():
    """JOBS with several aheads for each."""
    found = []
    for at, jobs in enumerate(SOME):
        every = all_aheads(jobs, 3 if len(jobs) < 5 else 2)
        found += [(jobs, ahead) for ahead in [()] + every[at % 5::max(1, len(every) // 6)]]
    return found


PAIRS = some_pairs()


class Aheads(Case):
    def test_is_ahead(self):
        for jobs in (HAND, SKEW, (), HAND[:1]):
            pairs = list(product(range(-1, len(jobs) + 1), repeat=2))
            for many in range(4):
                for thing in combinations(pairs, many):
                    fits = all(0 <= place < len(jobs) for pair in thing for place in pair) and is_ahead(jobs, thing)
                    self.assertIs(ns.is_ahead(jobs, thing), fits)
        for thing in (None, ((1, 0), (0, 1)), ((0, 1), (0, 1)), ((0, 2), (0, 1)), [(0, 1)], ([0, 1],), ((0, True),), ((0, 1, 2),),
                      ((0,),), (0, 1), ((0, None),), "01", ((0, 1), None)):
            self.assertIs(ns.is_ahead(HAND, thing), False)

    def test_sessions(self):
        self.assertEqual(ns.ahead_of_sessions(FOUR, ((3, 0, 2), (1,))), ((0, 2), (3, 0)))
        for sessions in ((), ((),), ((), (1,)), ((0,), (1,), (2,), (3,))):
            self.assertEqual(ns.ahead_of_sessions(FOUR, sessions), ())
        self.assertEqual(ns.ahead_of_sessions(FOUR, ((0, 1), (3, 2))), ((0, 1), (3, 2)))
        for sessions in (((0, 1), (1,)), ((0, 0),), ((0, 1, 0),), ((2,), (2,))):
            self.refuses(Unfit(), ns.ahead_of_sessions, FOUR, sessions)
        self.no_numbers(ns.ahead_of_sessions, 4, lambda number: (FOUR, ((1, 1), (number, 9))))

    def test_rounds(self):
        self.assertEqual(ns.ahead_of_rounds(FOUR, ((1, 3), (0,), (2,))), ((0, 2), (1, 0), (3, 0)))
        self.assertEqual(ns.ahead_of_rounds(FOUR, ((0, 1, 2, 3),)), ())
        self.assertEqual(ns.ahead_of_rounds((), ()), ())
        for rounds in ((), ((0, 1), (2,)), ((0, 1), (1, 2, 3)), ((0, 1, 2, 3), ()), ((), (0, 1, 2, 3)), ((0, 0), (1, 2, 3))):
            self.refuses(Unfit(), ns.ahead_of_rounds, FOUR, rounds)
        self.refuses(Unfit(), ns.ahead_of_rounds, (), ((),))
        self.no_numbers(ns.ahead_of_rounds, 4, lambda number: (FOUR, ((), (number, 9))))

    def test_leads(self):
        for jobs, ahead in PAIRS:
            leading = closure(jobs, ahead)
            for one, other in product(range(len(jobs)), repeat=2):
                self.assertIs(ns.leads(jobs, ahead, one, other), (one, other) in leading)


class ShortMixes(Case):
    def test_against_the_oracle(self):
        for jobs, ahead in PAIRS:
            if len(jobs) > 3:
                continue
            mixes = short_mixes(jobs)
            for mix in mixes[::max(1, len(mixes) // 15)]:
                come, part, moves = alone(jobs, mix)
                self.assertIs(ns.is_short_mix(jobs, mix), True)
                self.assertEqual(ns.who_come(jobs, mix), tuple(come))
                self.assertEqual(ns.come_alone(jobs, mix), (part, moves))
                self.assertIs(ns.is_let_short(jobs, mix), is_let(jobs, mix))
                self.assertIs(ns.keeps_ahead(jobs, ahead, mix), keeps(jobs, ahead, mix))
                rows = rows_by(jobs, ahead, mix)
                self.assertEqual(ns.rows_by(jobs, ahead, mix), rows)
                self.assertIs(ns.is_straight_by(jobs, ahead, mix), bool(rows))

    def test_is_short_mix(self):
        jobs = SKEW[:1] + (("plain", ()),)
        mixes = short_mixes(jobs)
        for many in range(5):
            for thing in product(range(-1, 3), repeat=many):
                self.assertIs(ns.is_short_mix(jobs, thing), thing in mixes)
        for thing in (None, [0, 0, 0], (True,), (False, 0, 0), (1, None), "1", ((1,),), (1, (0, 0, 0))):
            self.assertIs(ns.is_short_mix(jobs, thing), False)

    def test_a_job_that_does_not_come(self):
        # 0 leads 2 over 1, which does not come.
        ahead, mix = ((0, 1), (1, 2)), (2, 2, 0, 0, 0)
        self.assertIs(ns.keeps_ahead(HAND, ahead, mix), False)
        self.assertIs(ns.keeps_ahead(HAND, ahead, (0, 0, 0, 2, 2)), True)
        self.assertIs(ns.keeps_ahead(HAND, ((0, 1),), mix), True)
        self.assertEqual(ns.rows_by(HAND, ahead, mix), [])
        self.assertEqual(ns.rows_by(HAND, (), mix), [(2, 0)])
        self.assertEqual(ns.rows_by(HAND, ahead, ()), [()])
        self.assertEqual((ns.who_come(HAND, ()), ns.come_alone(HAND, ())), ((), ((), ())))

    def test_refusals(self):
        ring, same = ((0, 1), (1, 0)), ((2, 2),)
        for function in (ns.who_come, ns.come_alone, ns.is_let_short):
            self.no_numbers(function, 3, lambda number: (HAND, (1, number, 9)))
            for mix in ((0,), (1, 1, 1), (2, 2, 0, 0), (0, 0, 0, 0)):
                self.refuses(Unfit(), function, HAND, mix)
        for function in (ns.keeps_ahead, ns.rows_by, ns.is_straight_by):
            self.no_numbers(function, 3, lambda number: (HAND, ring + ((number, 9),), (0, 8)))
            self.no_numbers(function, 3, lambda number: (HAND, ring, (0, number, 9)))
            for ahead in (ring, same, ((0, 1), (1, 2), (2, 0))):
                self.refuses(Unfit(), function, HAND, ahead, (1, 1))
            self.refuses(Unfit(), function, HAND, (), (0,))
        self.no_numbers(ns.leads, 3, lambda number: (HAND, ring + ((1, number),), 9, 9))
        self.no_numbers(ns.leads, 3, lambda number: (HAND, ring, number, 9))
        self.no_numbers(ns.leads, 3, lambda number: (HAND, ring, 0, number))
        self.refuses(Unfit(), ns.leads, HAND, ring, 0, 1)
        self.refuses(Unfit(), ns.leads, HAND, same, 0, 1)
        for function in (ns.split_by, ns.is_safe_by, ns.least_by, ns.healing_pairs, ns.spoiling_pairs):
            self.no_numbers(function, 3, lambda number: (HAND, ring + ((number, 9),)))
            for ahead in (ring, same, ((0, 1), (1, 2), (2, 0))):
                self.refuses(Unfit(), function, HAND, ahead)
        for thing in (None, (0, 0, (1, 2)), [1]):
            self.no_numbers(ns.is_split_by, 3, lambda number: (HAND, ((0, number),), thing))
            self.refuses(Unfit(), ns.is_split_by, HAND, ring, thing)

    def test_short_mix_of(self):
        ahead = ((1, 2),)
        self.no_numbers(ns.short_mix_of, 3, lambda number: (HAND, ((1, 0), (0, 1), (0, number)), (9, 9, ())))
        self.refuses(Unfit(), ns.short_mix_of, HAND, ((0, 1), (1, 0)), (0, 0, (1, 2)))
        for split in ((0, 0, (1,)), (0, 1, (1, 2)), (0, 0, (2, 1)), (0, 0, ()), (9, 0, (1,)), (0, 9, (1,)), (0, 0, (9,)),
                      (-1, 0, (1,))):
            self.refuses(Unfit(), ns.short_mix_of, HAND, ahead, split)
        self.refuses(Unfit(), ns.short_mix_of, HAND, (), (0, 0, (1, 2)))
        self.assertEqual(ns.short_mix_of(HAND, [[1, 2]], [0, 0, [1, 2]]), (0, 1, 1, 2, 2, 0, 0))


class Splits(Case):
    def test_against_the_oracle(self):
        for jobs, ahead in PAIRS:
            every = all_splits(jobs, ahead)
            told = ns.split_by(jobs, ahead)
            with self.subTest(jobs=jobs, ahead=ahead):
                self.assertIs(ns.is_safe_by(jobs, ahead), not every)
                self.assertEqual(told is None, not every)
                if every:
                    self.assertIn(told, every)
                    self.assertEqual(len(told[2]), min(len(split[2]) for split in every))
                    self.assertEqual(ns.split_by([list(job) for job in jobs], ahead), told)
                for head, place, others in every:
                    mix = ns.short_mix_of(jobs, ahead, (head, place, others))
                    self.assertEqual(mix, (head,) * (place + 1) + oracle.whole(jobs, others) + (head,) * (
                        len(jobs[head][1]) - place))
                    # What makes it a SPLIT: its short MIX is let, keeps ahead, and is not straight by it.
                    self.assertTrue(is_let(jobs, mix) and keeps(jobs, ahead, mix))
                    self.assertFalse(ns.is_straight_by(jobs, ahead, mix))

    def test_all_triples(self):
        pairs = [(jobs, ahead) for jobs, ahead in PAIRS if len(jobs) == 3 and len(ahead) in (0, 2)][::3]
        for jobs, ahead in pairs + [(jobs, ahead) for jobs in (HAND, RING) for ahead in all_aheads(jobs, 2)]:
            every, places = all_splits(jobs, ahead), range(-1, 4)
            for others in [others for many in range(4) for others in product(places, repeat=many)]:
                for head, place in product(places, range(-1, 3)):
                    thing = (head, place, others)
                    self.assertIs(ns.is_split_by(jobs, ahead, thing), thing in every)
        for thing in (None, [0, 0, (1, 2)], (0, 0, [1, 2]), (False, 0, (1, 2)), (0, 0, (True, 2)), (0, 0), (0, 0, (1, 2), 0)):
            self.assertIs(ns.is_split_by(HAND, ((1, 2),), thing), False)

    def test_nobody_leads_who_stands_in_front(self):
        self.assertIs(ns.is_split_by(RING, (), (0, 0, (1, 2))), True)
        self.assertIs(ns.is_split_by(RING, ((1, 2),), (0, 0, (1, 2))), True)
        self.assertIs(ns.is_split_by(RING, ((2, 1),), (0, 0, (1, 2))), False)
        self.assertIsNone(ns.split_by(RING, ((2, 1),)))
        # The last of three leads the first one, over one that does not come.
        hops = (("shot", (("write", "a"), ("write", "c"))), ("shot", (("read", "c"), ("write", "d"))),
                ("shot", (("read", "d"), ("read", "b"))))
        jobs = RING[:1] + hops + (("shot", (("write", "b"),)),)
        self.assertIs(ns.is_split_by(jobs, ((3, 4),), (0, 0, (1, 2, 3))), True)
        self.assertIs(ns.is_split_by(jobs, ((3, 4), (4, 1)), (0, 0, (1, 2, 3))), False)
        self.assertEqual(ns.split_by(jobs, ((3, 4),)), (0, 0, (1, 2, 3)))
        self.assertNotIn((0, 0, (1, 2, 3)), [ns.split_by(jobs, ((3, 4), (4, 1)))])

    def test_by_nothing_ahead(self):
        # A guarantee: by () it is what SPLITS and GIVINGS tell.
        for jobs in SOME:
            self.assertEqual(ns.is_safe_by(jobs, ()), splits.safe(jobs))
            self.assertEqual(ns.least_by(jobs, ()), nl.least_levels(jobs))
            least, told = splits.least_split(jobs), ns.split_by(jobs, ())
            self.assertEqual(told and len(told[2]), least and len(least[2]))

    def test_safe_by_all_short_mixes(self):
        for jobs in SMALL:
            for ahead in all_aheads(jobs, 2)[::2]:
                self.assertEqual(ns.is_safe_by(jobs, ahead), is_safe(jobs, ahead))

    def test_safe_by_all_short_mixes_of_three(self):
        short = [steps for steps in family("abc", 2, 3) if sum(len(line) for line in steps) <= 4]
        for at, steps in enumerate(short):
            jobs, aheads = oracle.at_levels(steps, oracle.all_levels(3)[at * 7 % 27]), all_aheads(SOME[-1][:3], 3)
            for ahead in aheads[at % 4::4]:
                self.assertEqual(ns.is_safe_by(jobs, ahead), is_safe(jobs, ahead))

    def test_safe_by_all_short_mixes_of_four(self):
        lines = (("read", "a"),), (("write", "a"),), (("read", "b"),), (("write", "b"),)
        for levels in (("shot",) * 4, ("plain",) * 4, ("watched",) * 4):
            jobs = oracle.at_levels(lines, levels)
            for ahead in (((0, 2),), ((1, 2), (3, 0)), ((0, 3), (2, 1)), ((0, 1), (1, 2), (2, 3))):
                self.assertEqual(ns.is_safe_by(jobs, ahead), is_safe(jobs, ahead))

    def test_led_over_a_job_that_does_not_come(self):
        # 1 leads 3 over 2, which writes what the head writes, and so can not come.
        jobs = (HAND[0], HAND[1], ("shot", (("write", "b"),)), HAND[2])
        ahead = ((1, 2), (2, 3))
        self.assertEqual(ns.split_by(jobs, ahead), (0, 0, (1, 3)))
        self.assertIs(ns.is_split_by(jobs, ahead, (0, 0, (1, 2, 3))), False)
        self.assertIs(ns.is_safe_by(jobs, ((1, 2),)), True)


class Levels(Case):
    def test_least_by(self):
        for jobs, ahead in PAIRS[::2]:
            if len(jobs) > 3:
                continue
            steps = tuple(line for _, line in jobs)
            fit = [levels for levels in oracle.all_levels(len(jobs)) if not all_splits(oracle.at_levels(steps, levels), ahead)]
            told = ns.least_by(jobs, ahead)
            # Guarantees: a higher level never makes one, with all watched there is none, there is one least giving.
            ranks = [oracle.LEVELS.index(level) for level in told]
            self.assertEqual(fit, [levels for levels in oracle.all_levels(len(jobs)) if all(
                oracle.LEVELS.index(level) >= rank for level, rank in zip(levels, ranks))])

    def test_healing_and_spoiling(self):
        for jobs, ahead in PAIRS:
            if len(jobs) > 4:
                continue
            leading = closure(jobs, ahead)
            apart = [(one, other) for one, other in permutations(range(len(jobs)), 2)
                     if (one, other) not in leading and (other, one) not in leading]
            fit = tuple(pair for pair in apart if not all_splits(jobs, tuple(ahead) + (pair,)))
            if all_splits(jobs, ahead):
                self.assertEqual((ns.healing_pairs(jobs, ahead), ns.spoiling_pairs(jobs, ahead)), (fit, ()))
            else:
                self.assertEqual(ns.healing_pairs(jobs, ahead), ())
                self.assertEqual(ns.spoiling_pairs(jobs, ahead), tuple(pair for pair in apart if pair not in fit))


def all_rounds(places):
    if not places:
        return [()]
    return [(some,) + rest for some in subsets(places) if some
            for rest in all_rounds(tuple(place for place in places if place not in some))]


class Rounds(Case):
    def test_against_all_rounds(self):
        for jobs in [jobs for jobs in SOME if len(jobs) <= 4]:
            fit = []
            for rounds in all_rounds(tuple(range(len(jobs)))):
                ahead = ns.ahead_of_rounds(jobs, rounds)
                safe = not all_splits(jobs, ahead)
                # A guarantee: safe by ROUNDS exactly if those of each round alone are safe.
                self.assertEqual(safe, all(splits.safe(tuple(jobs[place] for place in some)) for some in rounds))
                if safe:
                    fit.append((len(rounds), rounds))
            self.assertEqual((ns.fewest_rounds(jobs), ns.rounds_for(jobs)), min(fit))

    def test_of_six(self):
        jobs = SKEW * 3
        self.assertEqual((ns.fewest_rounds(jobs), ns.rounds_for(jobs)), (2, ((0, 2, 4), (1, 3, 5))))
        add = (("plain", (("read", "x"), ("write", "x"))),)
        self.assertEqual(ns.rounds_for(add * 6), tuple((place,) for place in range(6)))
        self.assertEqual((ns.fewest_rounds(()), ns.rounds_for(())), (0, ()))


if __name__ == "__main__":
    unittest.main()
