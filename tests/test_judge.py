"""[19]: nosplit/judge.py; each CLAIM is held against all PAPERS that there can be, by the words of its point."""

import unittest
from itertools import permutations, product

import oracle
import samples
import test_blame
import test_fillings
import test_histories
import test_log
import test_ranges
import test_sessions
import test_waits
from nosplit import fillings, judge, levels, splits
from nosplit.errors import Unfit
from support import Case, Lists, random_jobs, small_jobs
from test_things import ZOO, spoilt

nj = Lists(judge)

CROSS = (("shot", (("read", "x"), ("write", "y"))), ("shot", (("read", "y"), ("write", "x"))))
ADDS = (("shot", (("read", "x"), ("write", "x"))), ("shot", (("read", "x"), ("write", "x"))))
SKEWED, LOST = (0, 1, 1, 1, 0, 0), (((None,), (None,)), (("x", (0, 1)),))
SMALL = [jobs for jobs in small_jobs() if sum(len(steps) + 1 for _, steps in jobs) <= 8][::2] + [CROSS, ADDS, ()]

# A CLAIM of each word, with lists nowhere, and one that does not stand where there is one.
STANDING = [("safe", ADDS), ("no head", CROSS + ADDS[:1], 2), ("not lower", CROSS, ("shot", "watched")), ("let", CROSS, SKEWED),
            ("straight", ADDS, (0, 0, 0, 1, 1, 1)), ("comes", CROSS, (((None,), (None,)), (("x", (1,)), ("y", (0,))))),
            ("never", ADDS, LOST), ("safe by", CROSS, ((0, 1),)), ("many", (test_fillings.HIT,), ()),
            ("ranges", (test_ranges.LOOK, test_ranges.BOTH)), ("smooth", test_waits.GATE), ("lasting", test_log.BOOK, test_log.WORK[:7])]
FALLEN = [("safe", CROSS), ("no head", CROSS, 1), ("not lower", CROSS[:1], ("shot",)), ("let", ADDS, SKEWED), ("straight", CROSS, SKEWED),
          ("comes", ADDS, LOST), ("never", CROSS, (((None,), (None,)), (("x", (1,)), ("y", (0,))))), ("safe by", CROSS, ()),
          ("many", (test_fillings.HIT, test_fillings.PEEK), ()), ("ranges", test_ranges.TWICE), ("smooth", test_waits.TWINS),
          ("lasting", test_log.BOOK, test_log.WORK)]
NEVER = ("sure", "Safe", "no  head", "nohead", "", "safe ", "let it")


def is_bad(jobs, mix):
    return oracle.is_let(jobs, mix) and not oracle.is_straight(jobs, mix)


def every_level(jobs):
    return oracle.all_levels(len(jobs))


class Claims(Case):
    def check(self, claim, papers, others=()):
        """All PAPERS against this CLAIM are these; others are none."""
        with self.subTest(claim=claim):
            self.assertIs(nj.is_claim(claim), True)
            self.assertIs(nj.stands(claim), not papers)
            told = nj.paper_against(claim)
            self.assertTrue(told in papers if papers else told is None)
            self.assertEqual(nj.paper_against(samples.listed_deep(claim)), told)
            for paper in papers:
                self.assertIs(nj.is_paper_against(claim, paper), True)
            for other in others:
                self.assertIs(nj.is_paper_against(claim, other), other in papers)
            for thing in (None, True, 0, "", "no", [], [told], (), ((),), (None, None), (told, told), ([0], 0)):
                self.assertIs(nj.is_paper_against(claim, thing), thing in papers)
            self.assertIs(nj.is_paper_against(claim, samples.listed_deep(told) if told else None), False)

    def test_safe(self):
        for jobs in SMALL:
            mixes = oracle.mixes(jobs)
            self.check(("safe", jobs), [mix for mix in mixes if is_bad(jobs, mix)], mixes[::5])

    def test_no_head(self):
        for jobs in SMALL + random_jobs(71, 12, "abc", 3, 3):
            every = oracle.splits(jobs)
            for head in range(len(jobs)):
                self.check(("no head", jobs, head), [split for split in every if split[0] == head], every)

    def test_not_lower(self):
        for jobs in SMALL:
            enough = [told for told in every_level(jobs) if splits.safe(test_blame.with_levels(jobs, told))]
            for told in every_level(jobs)[::4] + [levels.least_levels(jobs)]:
                papers = [other for other in enough if not test_blame.at_least(other, told)]
                self.check(("not lower", jobs, told), papers, every_level(jobs))

    def test_not_lower_by_all_mixes(self):
        for jobs in SMALL[::6] + [CROSS, ADDS]:
            enough = [told for told in every_level(jobs) if oracle.is_safe(test_blame.with_levels(jobs, told))]
            self.assertEqual([told for told in every_level(jobs) if nj.is_paper_against(
                ("not lower", jobs, ("watched",) * len(jobs)), told) or told == ("watched",) * len(jobs)], enough)

    def test_let_and_straight(self):
        for jobs in SMALL + random_jobs(72, 6, "ab", 3, 2):
            mixes = oracle.mixes(jobs)
            for mix in mixes[::1 + len(mixes) // 12]:
                papers = [(move, place) for move, bar in enumerate(oracle.bars(jobs, mix)) if bar for place in sorted(bar[1])]
                self.check(("let", jobs, mix), papers, list(product(range(-1, len(mix) + 1), range(-1, len(jobs) + 1))))
                pairs = {edge[:2] for edge in oracle.edges(jobs, mix)}
                turns = [turn for many in range(1, len(jobs) + 1) for turn in permutations(range(len(jobs)), many)]
                rings = [turn for turn in turns if len(turn) > 1 and turn[0] == min(turn)
                         and all(pair in pairs for pair in zip(turn, turn[1:] + turn[:1]))]
                self.check(("straight", jobs, mix), rings, turns)
                self.assertIs(nj.stands(("straight", jobs, mix)), oracle.is_straight(jobs, mix))

    def test_comes_and_never(self):
        for jobs in [jobs for jobs in SMALL if not test_histories.is_watched(jobs)]:
            coming, every = test_histories.told_by(jobs), test_histories.all_tales(jobs)
            spots, mixes = test_histories.spots(jobs), oracle.mixes(jobs)
            for tale in every[::1 + len(every) // 8]:
                pairs = test_histories.needs(jobs, tale)
                ways = [way for many in range(2, 5) for way in permutations(spots, many)]
                rings = [way for way in ways if all(pair in pairs for pair in zip(way, way[1:] + way[:1]))]
                claim, paper = ("comes", jobs, tale), nj.paper_against(("comes", jobs, tale))
                self.assertIs(nj.stands(claim), tale in coming)
                self.assertEqual(paper is None, tale in coming)
                self.assertEqual([way for way in ways[::7] if nj.is_paper_against(claim, way)], [way for way in ways[::7] if way in rings])
                if paper is not None:
                    self.assertTrue(all(pair in pairs for pair in zip(paper, paper[1:] + paper[:1])))
                self.assertIs(nj.is_paper_against(claim, paper), paper is not None)
                self.check(("never", jobs, tale), coming.get(tale, []), mixes[::3])

    def test_safe_by(self):
        for jobs in [jobs for jobs in SMALL if len(jobs) < 4][::3] + [test_sessions.HAND, CROSS]:
            mixes = test_sessions.short_mixes(jobs)
            for ahead in test_sessions.all_aheads(jobs, 2)[::2]:
                papers = [mix for mix in mixes if test_sessions.keeps(jobs, ahead, mix) and test_sessions.is_let(jobs, mix)
                          and not test_sessions.rows_by(jobs, ahead, mix)]
                self.check(("safe by", jobs, ahead), papers, mixes[::5])

    def test_many(self):
        for programs, lone in test_fillings.SOME[::3] + [((test_fillings.HIT, test_fillings.PEEK), ())]:
            claim, found = ("many", programs, lone), test_fillings.found_by_all(programs, lone)
            self.assertIs(nj.stands(claim), not found)
            paper = nj.paper_against(claim)
            self.assertEqual(paper is None, not found)
            self.assertIs(nj.is_paper_against(claim, paper), bool(found))
            if paper is not None:
                company, split = paper
                jobs = test_fillings.fill(programs, company)
                self.assertIs(fillings.is_company(programs, lone, company), True)
                self.assertIs(oracle.is_split(jobs, *split), True)
                for thing in ((company, split[:2] + (split[2][::-1],)), (company[::-1], split), (company * 2, split), (company, split, 0)):
                    self.assertIs(nj.is_paper_against(claim, thing), fillings.is_bad_company(programs, lone, thing))

    def test_many_with_lone_tables(self):
        # Three of THREE show it with one day, or with one of two days; in the second COMPANY there are two.
        claim, (company, split) = ("many", test_fillings.THREE, ("day",)), nj.paper_against(("many", test_fillings.THREE, ("day",)))
        self.assertIs(nj.is_paper_against(claim, (company, split)), True)
        wide = company + ((0, ("other", "further")),)
        self.assertIs(nj.is_paper_against(("many", test_fillings.THREE, ()), (wide, split)), True)
        self.assertIs(nj.is_paper_against(claim, (wide, split)), False)

    def test_ranges(self):
        several = [jobs for jobs in test_ranges.random_ranges(73, 40, 3, 2, 4) if sum(len(steps) + 1 for _, steps in jobs) <= 7]
        for jobs in several + [test_ranges.TWICE, test_ranges.PAIR, test_ranges.BLIND, ()]:
            mixes, wholes = test_ranges.mixes(jobs), test_ranges.wholes(jobs)
            bad = [mix for mix in mixes if test_ranges.outcome(jobs, mix) not in wholes and test_ranges.is_let(jobs, mix)]
            self.check(("ranges", jobs), bad, mixes[::4])

    def test_smooth(self):
        for jobs in SMALL[::2] + [test_waits.JOBS[:2], test_waits.TWINS, test_waits.GATE]:
            store = test_waits.Store(jobs)
            every = store.beginnings()
            self.check(("smooth", jobs), [done for done in every if not store.through(done)[1]], every)

    def test_lasting(self):
        for pages, deeds in test_log.drawn(74, 60, 9) + [(test_log.BOOK, test_log.WORK), (((),), ())]:
            pairs = [(number, disk) for number in range(len(deeds) + 1) for disk in test_log.disks(pages, deeds[:number])]
            papers = [(number, disk) for number, disk in pairs if not test_log.is_right(pages, deeds[:number], disk)]
            self.check(("lasting", pages, deeds), papers, pairs)

    def test_one_of_each_word(self):
        self.assertEqual([claim[0] for claim in STANDING], [claim[0] for claim in FALLEN])
        self.assertEqual(len({claim[0] for claim in STANDING}), 12)
        for claim in STANDING:
            self.assertEqual((nj.stands(claim), nj.paper_against(claim)), (True, None))
        for claim in FALLEN:
            self.assertIs(nj.stands(claim), False)
            self.assertIs(nj.is_paper_against(claim, nj.paper_against(claim)), True)

    def test_things_of_every_kind(self):
        for claim in STANDING + FALLEN:
            paper = nj.paper_against(claim)
            for thing in ZOO + (list(spoilt(paper)) if paper is not None else []):
                with self.subTest(claim=claim, thing=thing):
                    told = judge.is_paper_against(claim, thing)
                    self.assertIs(type(told), bool)
                    self.assertTrue(isinstance(thing, tuple) or not told)
                    self.assertTrue(not told or paper is not None)

    def test_of_nothing(self):
        for claim in (("safe", ()), ("not lower", (), ()), ("let", (), ()), ("straight", (), ()), ("comes", (), ((), ())),
                      ("safe by", (), ()), ("ranges", ()), ("smooth", ()), ("lasting", ((),), ())):
            self.assertIs(nj.stands(claim), True)
        self.assertEqual(nj.paper_against(("never", (), ((), ()))), ())
        self.assertIs(nj.is_paper_against(("never", (), ((), ())), ()), True)

    def test_a_raised_level(self):
        # A guarantee: what stood stands still.
        for jobs in SMALL:
            for place in range(len(jobs)):
                raised = jobs[:place] + (("watched", jobs[place][1]),) + jobs[place + 1:]
                self.assertTrue(nj.stands(("safe", raised)) or not nj.stands(("safe", jobs)))
                for head in range(len(jobs)):
                    self.assertTrue(nj.stands(("no head", raised, head)) or not nj.stands(("no head", jobs, head)))


class Kinds(Case):
    def none(self):
        """What is no CLAIM: a number that is no place, members of other kinds, one too many, one too few."""
        found = [(word,) + claim[1:] for claim in STANDING for word in NEVER]
        found += [claim + (None,) for claim in STANDING] + [claim[:-1] for claim in STANDING] + [claim[:1] for claim in STANDING]
        for claim in STANDING:
            found += [claim[:at] + (other,) + claim[at + 1:] for at in range(1, len(claim))
                      for other in (None, True, -1, "safe", (None,), (((),),), 99)]
        found += [("no head", ADDS, number) for number in (2, -1, True, False, None, "0", (0,))] + [("no head", (), 0)]
        found += [("not lower", ADDS, told) for told in ((), ("plain",), ("plain", "high"), ("plain",) * 3, ("plain", None))]
        found += [(word, ADDS, mix) for word in ("let", "straight") for mix in ((), (0, 1), (0, 0, 0, 1, 1, 2), (0, 0, 0, 0, 1, 1))]
        watched = (("watched", ADDS[0][1]), ADDS[1])
        found += [(word, watched, LOST) for word in ("comes", "never")]
        found += [(word, ADDS, tale) for word in ("comes", "never") for tale in ((LOST[0], ()), ((), LOST[1]), (((0,), (None,)), LOST[1]))]
        found += [("safe by", CROSS, ahead) for ahead in (((0, 2),), ((0, 0),), ((0, 1), (1, 0)), ((1, 0), (0, 1)), ((0, 1, 0),), (0, 1))]
        found += [("many", (), ()), ("many", (test_fillings.PEEK,), ("acc",)), ("many", (test_fillings.HIT,), ("b", "a")),
                  ("many", (test_fillings.HIT,), ("a", "a")), ("many", (test_fillings.HIT,), ("A",)), ("many", test_fillings.HIT, ())]
        found += [("ranges", (("plain", (("range", 2, 1),)),)), ("ranges", ADDS), ("smooth", (("plain", (("range", 1, 1),)),))]
        found += [("lasting", (), ()), ("lasting", (("a",), ("a",)), ()), ("lasting", (("b", "a"),), ()), ("lasting", ("a",), ()),
                  ("lasting", (("a",),), (("log", 1),)), ("lasting", (("a",),), (("out", 1),))]
        return found

    def test_is_claim(self):
        for claim in STANDING + FALLEN:
            self.assertIs(nj.is_claim(claim), True)
            self.assertIs(nj.is_claim(list(claim)), False)
            for at in range(1, len(claim)):
                if isinstance(claim[at], tuple):
                    self.assertIs(nj.is_claim(claim[:at] + (list(claim[at]),) + claim[at + 1:]), False)
        for thing in self.none():
            with self.subTest(thing=thing):
                self.assertIs(nj.is_claim(thing), False)
        self.assertIs(nj.is_claim(("many", (test_fillings.HIT,), ("none", "other"))), True)
        self.assertIs(nj.is_claim(("safe", ADDS * 30)), True)

    def test_unfit(self):
        for thing in self.none() + [None, (), "safe", 0, ("safe",), (("safe",), ADDS)]:
            for function in (nj.stands, nj.paper_against, nj.reason_for, nj.levels_that_mend):
                self.refuses(Unfit(), function, thing)
            self.refuses(Unfit(), nj.is_paper_against, thing, None)
            self.refuses(Unfit(), nj.is_reason_for, thing, ())
            self.refuses(Unfit(), nj.first_fallen, (FALLEN[0], thing))

    def test_of_another_word(self):
        for claim in STANDING[1:] + FALLEN[1:]:
            self.refuses(Unfit(), nj.reason_for, claim)
            self.refuses(Unfit(), nj.is_reason_for, claim, ())
            self.refuses(Unfit(), nj.levels_that_mend, claim)

    def test_first_fallen(self):
        self.assertEqual((nj.first_fallen(()), nj.first_fallen(STANDING)), (None, None))
        for at in range(len(STANDING)):
            claims = STANDING[:at] + [FALLEN[at]] + FALLEN[::-1]
            place, paper = nj.first_fallen(tuple(claims))
            self.assertEqual((place, paper), (at, nj.paper_against(FALLEN[at])))
            self.assertEqual(nj.first_fallen(samples.listed_deep(claims)), (place, paper))


class Reasons(Case):
    def reaches(self, jobs, head, place):
        """All sets of pairs (job, mark) that is_why takes: what this is told from is held against the document by its own tests."""
        pairs = list(product(range(len(jobs)), (0, 1)))
        every = [tuple(pair for at, pair in enumerate(pairs) if code >> at & 1) for code in range(1 << len(pairs))]
        return [reach for reach in every if splits.is_why(jobs, head, place, reach)]

    def test_exactly_if_the_claim_stands(self):
        for jobs in [jobs for jobs in SMALL + random_jobs(75, 10, "ab", 3, 2) if len(jobs) <= 3]:
            cuts = [(head, place) for head in range(len(jobs)) for place, _ in oracle.reads(jobs, head)]
            able = [[(head, place, reach) for reach in self.reaches(jobs, head, place)] for head, place in cuts]
            claim, is_safe = ("safe", jobs), not oracle.splits(jobs)
            with self.subTest(jobs=jobs):
                self.assertEqual(all(able), is_safe)
                if not is_safe:
                    self.refuses(Unfit(), nj.reason_for, claim)
                    continue
                told = nj.reason_for(claim)
                self.assertEqual(told, tuple((head, place, splits.reached(jobs, head, place)) for head, place in cuts))
                self.assertIs(nj.is_reason_for(claim, told), True)
                for at, parts in enumerate(able):
                    for part in parts[:3] + parts[-1:]:
                        self.assertIs(nj.is_reason_for(claim, told[:at] + (part,) + told[at + 1:]), True)
                for thing in (told + told[:1] if told else None, told[1:] if told else None, told[::-1] if len(told) > 1 else None, list(told), None, (None,)):
                    self.assertIs(nj.is_reason_for(claim, thing), False)

    def test_what_is_no_reason(self):
        claim, right = ("safe", ADDS), ((0, 0, ()), (1, 0, ()))
        self.assertIs(nj.is_reason_for(claim, right), True)
        for thing in (((False, 0, ()), (1, 0, ())), ((0, False, ()), (1, 0, ())), ((0, 0, []), (1, 0, ())), ((0, 0, ()),), ([0, 0, ()], (1, 0, ())),
                      ((0, 0, ((1, 0),)), (1, 0, ())), ((0, 0), (1, 0)), ((1, 0, ()), (0, 0, ())), ((0, 0, (), 0), (1, 0, ())),
                      ((0, 0, None), (1, 0, ())), "reason", ((None, 0, ()), (1, 0, ()))):
            self.assertIs(nj.is_reason_for(claim, thing), False)
        self.assertIs(nj.is_reason_for(("safe", CROSS), right), False)
        self.assertIs(nj.is_reason_for(("safe", ()), ()), True)
        readers = ("safe", (("plain", (("read", "a"),)),) * 5)
        self.assertIs(nj.is_reason_for(readers, tuple((head, 0, ()) for head in range(5))), True)
        self.assertEqual((nj.reason_for(("safe", ())), nj.reason_for(("safe", (("shot", ()),)))), ((), ()))

    def test_levels_that_mend(self):
        for jobs in SMALL + random_jobs(76, 10, "abc", 3, 2):
            own = tuple(level for level, _ in jobs)
            enough = [told for told in every_level(jobs) if test_blame.at_least(told, own)
                      and not oracle.splits(test_blame.with_levels(jobs, told))]
            least = [told for told in enough if not any(test_blame.at_least(told, other) and told != other for other in enough)]
            self.assertEqual(nj.levels_that_mend(("safe", jobs)), least)
            self.assertEqual(len(least), 1)


if __name__ == "__main__":
    unittest.main()
