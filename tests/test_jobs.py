"""[4]: nosplit/jobs.py."""

import unittest

import oracle
from nosplit import jobs as nj
from nosplit.errors import NoNumber, NoRow, Twice, Unfit
from samples import JOBS, LOOK, NOTE, PAY
from support import Case, small_jobs

EMPTY = ("shot", ())
MORE = JOBS + (EMPTY, ("watched", (("write", "y"), ("write", "zz"))))


def chains(jobs, one, other):
    """All tuples of unlike places from one to other, each one clashing with the next one."""
    found, ahead = [], [(one,)]
    while ahead:
        way = ahead.pop()
        if way[-1] == other:
            found.append(way)
        for place in range(len(jobs)):
            if place not in way and oracle.do_clash(jobs, way[-1], place):
                ahead.append(way + (place,))
    return found


class Things(Case):
    def test_steps(self):
        for thing in (("read", "x"), ("write", "abcdefgh"), ("read", "zz")):
            self.assertIs(nj.is_step(thing), True)
        for thing in (("read", ""), ("read", "abcdefghi"), ("read", "A"), ("read", "a1"), ("read", "a b"), ("reads", "x"),
                      ("read", "\u00e9"), ("read", "x", "y"), ["read", "x"], ("x", "read"), ("", "x"), "read x", None):
            self.assertIs(nj.is_step(thing), False)

    def test_jobs(self):
        read, write = ("read", "x"), ("write", "x")
        for steps in ((), (read,), (read, write), (write,), (read, write, ("read", "y"))):
            for level in oracle.LEVELS:
                self.assertIs(nj.is_job((level, steps)), True)
        for steps in ((read, read), (write, write), (write, read), (read, write, read), (read, ("read", "y"), read),
                      (write, ("read", "y"), write), [read], (list(read),), (read, None), None, True, read):
            self.assertIs(nj.is_job(("plain", steps)), False)
        for level in ("", "Plain", "plai", "shots", None, True, 0, ("plain",), ["plain"]):
            self.assertIs(nj.is_job((level, (read,))), False)
        self.assertIs(nj.is_jobs(()), True)
        self.assertIs(nj.is_jobs(JOBS), True)
        for thing in (list(JOBS), PAY, (PAY, None), (list(PAY),), ((),), None, "plain", (True,)):
            self.assertIs(nj.is_jobs(thing), False)

    def test_as_the_oracle_has_it(self):
        steps = [(kind, row) for kind in ("read", "write") for row in "xy"]
        lines = [(a, b, c) for a in steps for b in steps for c in steps]
        for line in lines:
            self.assertIs(nj.is_job(("shot", line)), oracle.is_line(line))


class Rows(Case):
    def test_rows(self):
        self.assertEqual(nj.rows_of(()), ())
        self.assertEqual(nj.rows_of((EMPTY,)), ())
        self.assertEqual(nj.rows_of(MORE), ("x", "y", "z", "zz"))
        self.assertEqual(nj.reads_of(("plain", (("read", "y"), ("read", "b"), ("write", "a")))), ("b", "y"))
        self.assertEqual(nj.writes_of(("plain", (("write", "y"), ("read", "b"), ("write", "a")))), ("a", "y"))
        self.assertEqual((nj.reads_of(EMPTY), nj.writes_of(EMPTY)), ((), ()))

    def test_who(self):
        self.assertEqual(nj.who_reads(MORE, "x"), (0, 1))
        self.assertEqual(nj.who_writes(MORE, "y"), (4,))
        self.assertEqual(nj.who_writes(JOBS, "y"), ())
        self.assertEqual(nj.who_reads(JOBS, "z"), ())
        for function in (nj.who_reads, nj.who_writes):
            self.no_rows(function, lambda row: (JOBS, row))
            self.refuses(NoRow("x"), function, (), "x")
            self.refuses(NoRow("x"), function, (EMPTY,), "x")

    def test_step_at(self):
        self.assertEqual([nj.step_at(JOBS, 1, 0), nj.step_at(JOBS, 2, 0)], [("read", "x"), ("write", "z")])
        self.no_numbers(nj.step_at, 3, lambda number: (JOBS, number, 0))
        self.no_numbers(nj.step_at, 2, lambda number: (JOBS, 1, number))
        self.refuses(NoNumber(3), nj.step_at, JOBS, 3, 9)
        self.refuses(NoNumber(0), nj.step_at, MORE, 3, 0)
        self.refuses(NoNumber(0), nj.step_at, (), 0, 0)


class Levels(Case):
    def test_levels(self):
        self.assertEqual(nj.levels_of(()), ())
        self.assertEqual(nj.levels_of(MORE), ("plain", "shot", "plain", "shot", "watched"))
        self.assertEqual(nj.with_level(JOBS, 2, "shot"), (PAY, LOOK, ("shot", NOTE[1])))
        self.assertEqual(nj.with_level(JOBS, 0, "plain"), JOBS)
        self.no_numbers(nj.with_level, 3, lambda number: (JOBS, number, "shot"))

    def test_with_levels(self):
        levels = ("watched", "plain", "shot")
        changed = nj.with_levels(JOBS, levels)
        self.assertEqual(nj.levels_of(changed), levels)
        self.assertEqual([steps for _, steps in changed], [steps for _, steps in JOBS])
        self.assertEqual(nj.with_levels((), ()), ())
        for levels in ((), ("plain",) * 2, ("plain",) * 4):
            self.refuses(Unfit(), nj.with_levels, JOBS, levels)


class Clashes(Case):
    def test_against_the_oracle(self):
        for jobs in small_jobs() + [JOBS, MORE]:
            places = range(len(jobs))
            pairs = [(one, other) for one in places for other in places]
            for one, other in pairs:
                self.assertIs(nj.do_clash(jobs, one, other), oracle.do_clash(jobs, one, other))
                steps = [] if one == other else [
                    (a, b) for a, first in enumerate(jobs[one][1]) for b, second in enumerate(jobs[other][1])
                    if oracle.clash(first, second)]
                self.assertEqual(nj.clashing_steps(jobs, one, other), tuple(steps))
            self.assertEqual(nj.clashes(jobs), tuple(p for p in pairs if p[0] < p[1] and oracle.do_clash(jobs, *p)))

    def test_with_itself(self):
        self.assertIs(nj.do_clash(JOBS, 0, 0), False)
        self.assertEqual(nj.clashing_steps(JOBS, 0, 0), ())

    def test_refusals(self):
        for function in (nj.do_clash, nj.clashing_steps, nj.way_between):
            self.no_numbers(function, 3, lambda number: (JOBS, number, 1))
            self.no_numbers(function, 3, lambda number: (JOBS, 1, number))
            self.refuses(NoNumber(7), function, JOBS, 7, -1)
            self.refuses(NoNumber(-1), function, JOBS, -1, -1)
            self.refuses(NoNumber(0), function, (), 0, 0)

    def test_lots(self):
        self.assertEqual(nj.lots(()), ())
        self.assertEqual(nj.lots((EMPTY, EMPTY)), ((0,), (1,)))
        self.assertEqual(nj.lots(MORE), ((0, 1, 4), (2,), (3,)))
        for jobs in small_jobs() + [MORE]:
            places = range(len(jobs))
            together = {tuple(other for other in places if chains(jobs, one, other)) for one in places}
            self.assertEqual(nj.lots(jobs), tuple(sorted(together)))

    def test_ways(self):
        row = [("plain", (("write", a), ("write", b))) for a, b in ("ab", "bc", "cd", "de", "ea", "bd")]
        for jobs in small_jobs() + [MORE, tuple(row), tuple(row[::-1])]:
            for one in range(len(jobs)):
                for other in range(len(jobs)):
                    ways = chains(jobs, one, other)
                    wanted = min(ways, key=lambda way: (len(way), way)) if ways else None
                    self.assertEqual(nj.way_between(jobs, one, other), wanted)
        self.assertEqual(nj.way_between(MORE, 3, 3), (3,))
        self.assertEqual(nj.way_between(MORE, 0, 4), (0, 1, 4))
        self.assertIsNone(nj.way_between(MORE, 0, 3))

    def test_idle(self):
        self.assertEqual(nj.idle_steps(()), ())
        self.assertEqual(nj.lean(()), ())
        for jobs in small_jobs() + [JOBS, MORE]:
            idle = [(place, step) for place, job in enumerate(jobs) for step, one in enumerate(job[1])
                    if not any(oracle.clash(one, other) for at, beside in enumerate(jobs) if at != place
                               for other in beside[1])]
            self.assertEqual(nj.idle_steps(jobs), tuple(idle))
            thin = tuple((level, tuple(one for step, one in enumerate(steps) if (place, step) not in idle))
                         for place, (level, steps) in enumerate(jobs))
            self.assertEqual(nj.lean(jobs), thin)
            self.assertEqual(nj.idle_steps(thin), ())


class Made(Case):
    def test_with_and_without(self):
        self.assertEqual(nj.with_job((), PAY), (PAY,))
        self.assertEqual(nj.with_job(JOBS, EMPTY), JOBS + (EMPTY,))
        self.assertEqual([nj.without_job(JOBS, place) for place in range(3)], [(LOOK, NOTE), (PAY, NOTE), (PAY, LOOK)])
        self.no_numbers(nj.without_job, 3, lambda number: (JOBS, number))

    def test_part_of(self):
        self.assertEqual(nj.part_of(JOBS, ()), ())
        self.assertEqual(nj.part_of(JOBS, (1,)), (LOOK,))
        self.assertEqual(nj.part_of(JOBS, (0, 1, 2)), JOBS)
        self.refuses(NoNumber(3), nj.part_of, JOBS, (0, 3, 9))
        self.refuses(NoNumber(-2), nj.part_of, JOBS, (-2, -1, 5))
        self.refuses(NoNumber(0), nj.part_of, (), (0,))

    def test_turned(self):
        self.assertEqual(nj.turned((), ()), ())
        self.assertEqual(nj.turned(JOBS, (1, 2, 0)), (LOOK, NOTE, PAY))
        for order in ((), (0, 1), (0, 1, 1), (0, 1, 2, 2), (0, 0, 1, 2), (0, 1, 3), (-1, 0, 1), (0, 1, 2, 3), (True, 0, 2)):
            self.refuses(Unfit(), nj.turned, JOBS, order)

    def test_with_step(self):
        new = ("read", "w")
        self.assertEqual([nj.with_step(JOBS, 0, number, new)[0][1] for number in range(3)],
                         [(new,) + PAY[1], PAY[1][:1] + (new,) + PAY[1][1:], PAY[1] + (new,)])
        self.assertEqual(nj.with_step(JOBS, 0, 1, new)[1:], JOBS[1:])
        self.assertEqual(nj.with_step((EMPTY,), 0, 0, new), (("shot", (new,)),))
        self.no_numbers(nj.with_step, 3, lambda number: (JOBS, number, 0, new))
        self.no_numbers(nj.with_step, 3, lambda number: (JOBS, 0, number, new))

    def test_with_step_that_makes_no_job(self):
        for place, number, new in ((0, 0, ("read", "x")), (0, 2, ("read", "x")), (0, 2, ("write", "x")),
                                   (1, 0, ("write", "x")), (2, 1, ("read", "z"))):
            self.refuses(Unfit(), nj.with_step, JOBS, place, number, new)
        self.refuses(NoNumber(3), nj.with_step, JOBS, 3, 9, ("read", "x"))
        self.refuses(NoNumber(9), nj.with_step, JOBS, 0, 9, ("read", "x"))
        self.assertEqual(nj.with_step(JOBS, 1, 1, ("write", "x"))[1][1][1], ("write", "x"))
        self.assertEqual(nj.with_step(JOBS, 2, 0, ("read", "z"))[2][1], (("read", "z"), ("write", "z")))

    def test_without_step(self):
        self.assertEqual(nj.without_step(JOBS, 1, 0), (PAY, ("shot", (("read", "y"),)), NOTE))
        self.assertEqual(nj.without_step(JOBS, 2, 0)[2], ("plain", ()))
        self.no_numbers(nj.without_step, 3, lambda number: (JOBS, number, 0))
        self.no_numbers(nj.without_step, 1, lambda number: (JOBS, 2, number))
        self.refuses(NoNumber(5), nj.without_step, JOBS, 5, 7)

    def test_renamed(self):
        self.assertEqual(nj.renamed(JOBS, "x", "abcdefgh")[0][1], (("read", "abcdefgh"), ("write", "abcdefgh")))
        self.assertEqual(nj.renamed(JOBS, "x", "x"), JOBS)
        self.assertEqual(nj.renamed(JOBS, "y", "q")[1][1], (("read", "x"), ("read", "q")))
        self.refuses(Twice("z"), nj.renamed, JOBS, "y", "z")
        self.refuses(NoRow("q"), nj.renamed, JOBS, "q", "x")
        self.refuses(NoRow("q"), nj.renamed, JOBS, "q", "q")

    def test_lettered(self):
        self.assertEqual(nj.lettered(()), ())
        self.assertEqual(nj.lettered((EMPTY,)), (EMPTY,))
        self.assertEqual(nj.lettered((("plain", (("write", "b"), ("read", "c"))), ("shot", (("read", "a"), ("read", "b"))))),
                         (("plain", (("write", "a"), ("read", "b"))), ("shot", (("read", "c"), ("read", "a")))))
        self.assertEqual(nj.lettered(nj.lettered(MORE)), nj.lettered(MORE))


if __name__ == "__main__":
    unittest.main()
