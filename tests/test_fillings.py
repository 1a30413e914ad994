"""[11]: nosplit/fillings.py, and its guarantees."""

import random
import unittest
from itertools import combinations_with_replacement, permutations, product

import oracle
from nosplit import fillings
from nosplit import splits
from nosplit.errors import Unfit
from support import Case, Lists, random_jobs, random_line

nf = Lists(fillings)

HIT = ("shot", (("x", "acc"),), (("read", "x"), ("write", "x")))
PEEK = ("plain", (("x", "acc"), ("y", "acc")), (("read", "x"), ("read", "y")))
SLOTS = (("a", "day"), ("t", "box"))
THREE = (("shot", SLOTS, (("read", "a"), ("write", "t"))), ("shot", SLOTS, (("write", "a"), ("write", "t"))),
         ("shot", SLOTS, (("read", "a"), ("read", "t"))))
EMPTY = ("watched", (), ())


def random_programs(seed, count, tables, many, most, slots, levels=oracle.LEVELS):
    """So many times one to many PROGRAMS of at most so many STEPS and slots over these tables, and a lone for them."""
    chance, found = random.Random(seed), []
    while len(found) < count:
        programs = []
        for _ in range(chance.randint(1, many)):
            line = random_line(chance, "pqrs"[:chance.randint(1, slots)], most)
            names = sorted({slot for _, slot in line})
            programs.append((chance.choice(levels), tuple((slot, chance.choice(tables)) for slot in names), line))
        programs = tuple(programs)
        able = [table for table in sorted(set(tables)) if all(two(program, table) < 2 for program in programs)]
        found.append((programs, tuple(table for table in able if chance.random() < 0.3)))
    return found


def two(program, table):
    return [other for _, other in program[1]].count(table)


def fill(programs, company):
    found = []
    for place, rows in company:
        level, slots, steps = programs[place]
        names = {slot: row for (slot, _), row in zip(slots, rows)}
        found.append((level, tuple((kind, names[slot]) for kind, slot in steps)))
    return tuple(found)


def pools(programs, lone, most=None):
    """For each table its ROWS: one if it is lone, else twice as many as some PROGRAM has slots of it, or so many."""
    found = {}
    for table in sorted({table for _, slots, _ in programs for _, table in slots}):
        many = most or 2 * max(two(program, table) for program in programs)
        found[table] = [table + letter for letter in "abcdefgh"[:1 if table in lone else many]]
    return found


def all_copies(programs, rows):
    """All copies with these ROWS for the tables."""
    return [(place, told) for place, (_, slots, _) in enumerate(programs)
            for told in product(*[rows[table] for _, table in slots]) if len(set(told)) == len(told)]


def found_by_all(programs, lone):
    """The pairs (place, number) that are bad heads, and with how many others, by the COMPANY of all copies, each twice."""
    copies = all_copies(programs, pools(programs, lone)) * 2
    jobs, found = fill(programs, copies), {}
    for place, program in enumerate(programs):
        head = [at for at, copy in enumerate(copies) if copy[0] == place][0]
        for number, (kind, _) in enumerate(program[2]):
            # All copies of a PROGRAM are alike but for the names of ROWS: one of them is enough as a head.
            many = splits.fewest_others(jobs, head, number) if kind == "read" else None
            if many is not None:
                found[(place, number)] = many
    return found


SOME = [((HIT, PEEK), ()), (THREE, ()), (THREE, ("day",)), (THREE, ("box",)), (THREE, ("box", "day")), ((HIT,), ()),
        ((PEEK,), ()), ((HIT,), ("acc",)), ((EMPTY,), ()), ((EMPTY, HIT), ("acc", "none"))]
SOME += random_programs(31, 60, ("ta", "tb"), 3, 3, 2) + random_programs(32, 40, ("ta", "tb", "tc"), 3, 4, 3)
SOME += random_programs(33, 25, ("ta",), 2, 3, 2) + random_programs(36, 40, ("ta", "tb", "tc"), 4, 3, 3, oracle.LEVELS[1:])


class Kinds(Case):
    def test_is_program(self):
        for program in (HIT, PEEK, EMPTY) + THREE:
            self.assertIs(nf.is_program(program), True)
        slots, steps = (("x", "acc"), ("y", "acc")), (("read", "x"), ("read", "y"))
        for thing in (None, (), HIT[:2], HIT + (1,), list(HIT), ("high",) + HIT[1:], (True,) + HIT[1:],
                      ("plain", slots[::-1], steps), ("plain", slots + slots[1:], steps), ("plain", list(slots), steps),
                      ("plain", (("x", "acc"), ("x", "box")), steps[:1]), ("plain", slots, steps[:1]),
                      ("plain", slots[:1], steps), ("plain", slots, ()), ("plain", (), steps), ("plain", (("x", "A"),), steps[:1]),
                      ("plain", (("x1", "acc"),), (("read", "x1"),)), ("plain", (("x", "acc", 1),), steps[:1]),
                      ("plain", (["x", "acc"],), steps[:1]), ("plain", slots[:1], (("read", "x"), ("read", "x"))),
                      ("plain", slots[:1], (("write", "x"), ("read", "x"))), ("plain", slots[:1], (("see", "x"),)),
                      ("plain", (("abcdefghi", "acc"),), (("read", "abcdefghi"),)), ("plain", "xy", steps), ("plain", (None,), ())):
            self.assertIs(nf.is_program(thing), False)

    def test_is_company(self):
        programs = (HIT, PEEK)
        for company in ((), ((0, ("a",)),), ((0, ("a",)), (0, ("a",))), ((1, ("a", "b")), (1, ("b", "a")), (0, ("c",)))):
            self.assertIs(nf.is_company(programs, (), company), True)
        self.assertIs(nf.is_company(programs, (), ((0, ("a",)),) * 500), True)
        for thing in (None, 0, [], ((2, ("a",)),), ((-1, ("a",)),), ((True, ("a", "b")),), ((0, ("a", "b")),), ((0, ()),),
                      ((1, ("a", "a")),), ((0, "a"),), ((0, ["a"]),), ([0, ("a",)],), ((0, ("A",)),), ((0, (None,)),),
                      ((0, ("a",), 0),), ((0,),), (0, ("a",)), ((0, (("a",),)),), (((0, ("a",)),),)):
            self.assertIs(nf.is_company(programs, (), thing), False)

    def test_tables_of_a_company(self):
        # a stands for slots of both tables; with day lone, all its slots have one ROW.
        self.assertIs(nf.is_company(THREE, (), ((0, ("a", "b")), (1, ("b", "c")))), False)
        self.assertIs(nf.is_company(THREE, (), ((0, ("a", "b")), (1, ("c", "b")))), True)
        self.assertIs(nf.is_company(THREE, ("day",), ((0, ("a", "b")), (1, ("c", "b")))), False)
        self.assertIs(nf.is_company(THREE, ("day",), ((0, ("a", "b")), (1, ("a", "c")), (2, ("a", "b")))), True)
        self.assertIs(nf.is_company(THREE, ("box",), ((0, ("a", "b")), (1, ("c", "b")))), True)

    def test_filled(self):
        self.assertEqual(nf.filled((HIT, PEEK), ()), ())
        company = ((1, ("ann", "bob")), (0, ("bob",)), (1, ("bob", "ann")))
        self.assertEqual(nf.filled((HIT, PEEK), company), fill((HIT, PEEK), company))
        # nothing is raised: the ROWS need not make a COMPANY.
        self.assertEqual(nf.filled(THREE, ((0, ("a", "b")), (1, ("b", "c")))), fill(THREE, ((0, ("a", "b")), (1, ("b", "c")))))

    def test_as_programs(self):
        jobs = (("plain", (("write", "x"), ("read", "b"))), ("shot", ()), ("watched", (("read", "x"),)))
        wanted = (("plain", (("b", "b"), ("x", "x")), jobs[0][1]), ("shot", (), ()), ("watched", (("x", "x"),), jobs[2][1]))
        self.assertEqual(nf.as_programs(jobs), (wanted, ("b", "x")))
        self.assertTrue(all(nf.is_program(program) for program in wanted))

    def test_jobs_as_often_as_one_likes(self):
        # A guarantee.
        for jobs in random_jobs(41, 60, "abc", 2, 3) + random_jobs(42, 30, "abcd", 3, 3):
            programs, lone = nf.as_programs(jobs)
            for times in (2, 3):
                self.assertEqual(nf.are_safe(programs, lone), splits.safe(jobs * times))


class Safe(Case):
    def test_against_all_copies(self):
        # A guarantee: the COMPANIES with twice as many ROWS in each table are enough to tell.
        for programs, lone in SOME:
            found = found_by_all(programs, lone)
            fewest = 1 + min(found.values()) if found else None
            with self.subTest(programs=programs, lone=lone):
                self.assertIs(nf.are_safe(programs, lone), not found)
                self.assertEqual(nf.bad_heads(programs, lone), tuple(sorted(found)))
                self.assertEqual(nf.fewest_copies(programs, lone), fewest)
                for many in range(8):
                    self.assertIs(nf.safe_up_to(programs, lone, many), fewest is None or many < fewest)
                self.check_company(programs, lone, fewest)

    def check_company(self, programs, lone, fewest):
        told = nf.bad_company(programs, lone)
        if fewest is None:
            self.assertIsNone(told)
            return
        company, split = told
        self.assertIs(nf.is_company(programs, lone, company), True)
        self.assertEqual(len(company), fewest)
        self.assertTrue(oracle.is_split(fill(programs, company), *split))
        self.assertIs(nf.is_bad_company(programs, lone, told), True)
        self.assertEqual(nf.bad_company([list(program) for program in programs], list(lone)), told)

    def test_by_all_small_companies(self):
        # Whatever ROWS: three of each table, all COMPANIES of at most three copies, by the SPLITS of the oracle.
        for programs, lone in SOME[:4] + random_programs(34, 30, ("ta", "tb"), 2, 3, 2):
            copies, fewest = all_copies(programs, pools(programs, lone, 3)), nf.fewest_copies(programs, lone)
            bad = [company for many in range(4) for company in combinations_with_replacement(copies, many)
                   if oracle.splits(fill(programs, company))]
            least = min(map(len, bad), default=4)
            self.assertEqual(least, min(4, fewest or 4))

    def test_by_all_mixes(self):
        for programs, lone in random_programs(35, 25, ("ta", "tb"), 2, 2, 2):
            copies, fewest = all_copies(programs, pools(programs, lone)), nf.fewest_copies(programs, lone)
            pairs = [oracle.is_safe(fill(programs, pair)) for pair in combinations_with_replacement(copies, 2)]
            self.assertEqual(all(pairs), nf.safe_up_to(programs, lone, 2))
            self.assertEqual(all(pairs), fewest is None or fewest > 2)

    def test_is_bad_company(self):
        programs = (HIT, PEEK)
        company, split = nf.bad_company(programs, ())
        self.assertIs(nf.is_bad_company(programs, (), (company, split)), True)
        self.assertIs(nf.is_bad_company(programs, (), (company + ((0, ("zz",)),) * 9, split)), True)
        for thing in (None, company, split, (company,), (split, company), [company, split], (list(company), split),
                      (company, list(split)), (company, split, 0), (company, (0, 1, split[2])), ((), split), (company[:-1], split),
                      (company, (0, 0, ())), (company, None), (None, split), (company + (company[0][1],), split)):
            self.assertIs(nf.is_bad_company(programs, (), thing), False)

    def test_long_chains(self):
        # Three tables, in each of which one PROGRAM hands on to the next one.
        hop = [("shot", (("x", one), ("y", other)), (("read", "x"), ("write", "y"))) for one, other in (
            ("ta", "tb"), ("tb", "tc"), ("tc", "td"), ("td", "te"))]
        head = ("shot", (("x", "ta"), ("z", "te")), (("read", "z"), ("write", "x")))
        programs = (head,) + tuple(hop)
        self.assertEqual(nf.fewest_copies(programs, ()), 5)
        self.assertIs(nf.safe_up_to(programs, (), 4), True)
        self.assertIs(nf.safe_up_to(programs, (), 5), False)
        self.check_company(programs, (), 5)
        lone = ("ta", "tb", "tc", "td", "te")
        self.assertEqual(nf.fewest_copies(programs, lone), 5)
        self.check_company(programs, lone, 5)

    def test_slots_that_nobody_shares(self):
        # Each hop has two slots of a table that the head does not have: one hands on, the other one is free.
        hops = [("shot", (("x", "ta"), ("y", "tb"), ("z", "tb")), (("read", "x"), ("write", "y"), ("write", "z"))),
                ("shot", (("u", "tc"), ("v", "tc"), ("x", "tb")), (("write", "v"), ("read", "x"), ("write", "u"))),
                ("shot", (("w", "tc"), ("x", "te")), (("read", "w"), ("write", "x")))]
        programs = (("shot", (("x", "ta"), ("z", "te")), (("read", "z"), ("write", "x"))),) + tuple(hops)
        found = found_by_all(programs, ())
        self.assertEqual(nf.fewest_copies(programs, ()), 4)
        self.assertEqual(nf.bad_heads(programs, ()), tuple(sorted(found)))
        self.assertEqual(1 + min(found.values()), 4)
        self.check_company(programs, (), 4)

    def test_a_copy_of_the_same_program_twice(self):
        # Two hits of one ROW are not safe if they are plain; the company is of two copies of one PROGRAM.
        self.assertEqual(nf.fewest_copies((("plain",) + HIT[1:],), ()), 2)
        self.assertEqual(nf.bad_company((("plain",) + HIT[1:],), ("acc",))[1], (0, 0, (1,)))
        self.assertIsNone(nf.bad_company((HIT,), ()))


class Others(Case):
    def test_greatest_safe(self):
        for programs, lone in SOME[::2]:
            sets = [tuple(place for place in range(len(programs)) if code >> place & 1) for code in range(1 << len(programs))]
            safe = [some for some in sets if not some or not found_by_all(tuple(programs[place] for place in some), lone)]
            greatest = sorted(some for some in safe if not any(set(some) < set(other) for other in safe))
            self.assertEqual(nf.greatest_safe(programs, lone), greatest)
            # A guarantee: without a PROGRAM what is safe stays safe.
            self.assertTrue(all(some in safe for other in safe for some in sets if set(some) <= set(other)))

    def test_tables(self):
        for programs, lone in SOME[1::2] + SOME[:4]:
            tables = sorted({table for _, slots, _ in programs for _, table in slots})
            able = [table for table in tables if all(two(program, table) < 2 for program in programs)]
            saving = []
            for table in tables + ["zz"]:
                if table in able:
                    more = tuple(sorted({table} | set(lone)))
                    self.assertEqual(nf.with_lone(programs, lone, table), more)
                    bad = found_by_all(programs, more)
                    if not bad and table not in lone:
                        saving.append(table)
                    # A guarantee: with a table more in lone, what is safe stays safe.
                    self.assertLessEqual(set(bad), set(found_by_all(programs, lone)))
                else:
                    self.refuses(Unfit(), nf.with_lone, programs, lone, table)
            self.assertEqual(nf.saving_tables(programs, lone), tuple(saving))

    def test_levels(self):
        for programs, lone in SOME[::3]:
            enough = []
            for levels in oracle.all_levels(len(programs)):
                there = tuple((level,) + program[1:] for level, program in zip(levels, programs))
                fits = not found_by_all(there, lone)
                self.assertIs(nf.is_enough_for(programs, lone, levels), fits)
                if fits:
                    enough.append(levels)
            least = nf.least_for(programs, lone)
            # A guarantee: there is one least GIVING, and just those at least it are enough.
            ranks = [oracle.LEVELS.index(level) for level in least]
            above = [levels for levels in oracle.all_levels(len(programs))
                     if all(oracle.LEVELS.index(level) >= rank for level, rank in zip(levels, ranks))]
            self.assertEqual(enough, above)
            self.assertEqual(nf.least_for_more(programs[:-1], lone, programs[-1]) if len(programs) > 1 else least, least)

    def test_unfit_ahead_of_all(self):
        for programs, lone in (((HIT, PEEK), ("acc",)), ((PEEK,), ("acc", "box")), ((PEEK, EMPTY), ["acc"])):
            for function in (nf.are_safe, nf.fewest_copies, nf.bad_company, nf.bad_heads, nf.greatest_safe, nf.saving_tables,
                             nf.least_for):
                self.refuses(Unfit(), function, programs, lone)
            self.refuses(Unfit(), nf.safe_up_to, programs, lone, 0)
            self.refuses(Unfit(), nf.with_lone, programs, lone, "acc")
            self.refuses(Unfit(), nf.is_enough_for, programs, lone, ("watched",) * len(programs))
            self.refuses(Unfit(), nf.least_for_more, programs, lone, HIT)
            for thing in (None, (), [1], ((0, ("a",)),)):
                self.refuses(Unfit(), nf.is_company, programs, lone, thing)
                self.refuses(Unfit(), nf.is_bad_company, programs, lone, thing)
        self.refuses(Unfit(), nf.least_for_more, (HIT,), ("acc",), PEEK)
        self.assertEqual(nf.least_for_more((HIT,), (), PEEK), ("shot", "shot"))
        self.refuses(Unfit(), nf.with_lone, (PEEK,) + THREE, ("acc",), "day")
        self.refuses(Unfit(), nf.with_lone, (HIT, PEEK), (), "acc")
        self.refuses(Unfit(), nf.with_lone, (HIT,), (), "box")
        self.assertEqual(nf.with_lone((HIT,), ("acc", "box"), "acc"), ("acc", "box"))

    def test_copies_beside_one_another(self):
        # Permutations of the PROGRAMS change nothing but the places.
        for programs, lone in SOME[10:40:4]:
            for order in permutations(range(len(programs))):
                there = tuple(programs[place] for place in order)
                self.assertEqual(nf.fewest_copies(there, lone), nf.fewest_copies(programs, lone))
                heads = sorted((order.index(place), number) for place, number in nf.bad_heads(programs, lone))
                self.assertEqual(nf.bad_heads(there, lone), tuple(heads))


if __name__ == "__main__":
    unittest.main()
