"""[16]: nosplit/sweeps.py, and its guarantees over all small HISTORIES and all that comes later."""

import unittest
from itertools import combinations, product

import oracle
from nosplit import sweeps
from nosplit.errors import NoNumber
from support import Case, Lists, random_jobs, small_jobs

nw = Lists(sweeps)

EVENTS = [("open", 0), ("open", 1), ("shut", 0), ("shut", 1), ("commit", ("x",)), ("commit", ("x", "y")), ("commit", ("y",))]
MORE = EVENTS + [("open", 2), ("shut", 2)]
SHORT = (("commit", ("x",)), ("open", 0), ("commit", ("x", "y")), ("open", 1), ("commit", ("x",)))
LONG = (("open", 4),) + (("commit", ("x",)),) * 3


def open_at(history):
    """Who is open at the end, with the number of EVENTS ahead of the opening; None if this is no HISTORY."""
    found = {}
    for at, (word, told) in enumerate(history):
        if word == "open" and told in found or word == "shut" and told not in found:
            return None
        if word == "open":
            found[told] = at
        elif word == "shut":
            del found[told]
    return found


def versions(history, row):
    commits = [rows for word, rows in history if word == "commit"]
    return [0] + [number for number, rows in enumerate(commits, 1) if row in rows]


def seen(history, reader, row):
    """What this open reader sees: the last version that was there when it opened."""
    return versions(history[:open_at(history)[reader]], row)[-1]


def longer(history, events, most):
    """All HISTORIES that begin with this one and have at most so many EVENTS more."""
    found = [history]
    for many in range(1, most + 1):
        found += [history + more for more in product(events, repeat=many) if open_at(history + more) is not None]
    return found


def histories(most):
    return longer((), EVENTS, most)


def wanted(history, row):
    """By all that comes next: whoever is open now, or opens now."""
    found = set()
    for later in longer(history, [("open", 9)], 1):
        found |= {seen(later, reader, row) for reader in open_at(later)}
    return tuple(sorted(found))


def rows_in(history):
    return sorted({row for word, rows in history if word == "commit" for row in rows})


def shut(history, readers):
    return history + tuple(("shut", reader) for reader in readers)


FEW = histories(4) + histories(5)[::11] + [SHORT, LONG, ()]


class Histories(Case):
    def each(self, histories):
        for history in histories:
            with self.subTest(history=history):
                yield history

    def test_is_history(self):
        for many in range(5):
            for events in product(EVENTS, repeat=many):
                self.assertIs(nw.is_history(events), open_at(events) is not None)
        for thing in (None, [], [("open", 0)], (("open", -1),), (("open", True),), (("open", "x"),), (("open",),), (("shut", 0),), (("open", [0]),),
                      (["open", 0],), (("commit", ()),), (("commit", ["x"]),), (("commit", ("y", "x")),), (("commit", ("x", "x")),),
                      (("commit", ("X",)),), (("commit", "x"),), (("commit", 0),), (("close", 0),), (("open", 0), ("open", 0)),
                      (("open", 0), ("shut", 0), ("shut", 0)), (("commit", ("x",), 0),), "open", (("open", (0,)),)):
            self.assertIs(nw.is_history(thing), False)
        self.assertIs(nw.is_history((("open", 10 ** 12), ("commit", ("abcdefgh", "x")), ("open", 0), ("shut", 10 ** 12))), True)

    def test_who_is_open(self):
        for history in self.each(FEW):
            found = open_at(history)
            self.assertEqual(nw.open_readers(history), tuple(sorted(found)))
            self.assertEqual(nw.how_many_commits(history), len([1 for word, _ in history if word == "commit"]))
            for reader in range(3):
                if reader in found:
                    ahead = history[:found[reader]]
                    self.assertEqual(nw.opened_at(history, reader), len([1 for word, _ in ahead if word == "commit"]))
                else:
                    for function in (nw.opened_at, nw.freed_by):
                        self.refuses(NoNumber(reader), function, history, reader)
                    self.refuses(NoNumber(reader), nw.seen_version, history, reader, "x")

    def test_versions(self):
        for history in self.each(FEW):
            for row in "xyz":
                there = versions(history, row)
                self.assertEqual(nw.versions_of(history, row), tuple(there))
                for reader in open_at(history):
                    self.assertEqual(nw.seen_version(history, reader, row), seen(history, reader, row))
                for number in range(-1, 7):
                    if number in there:
                        who = tuple(reader for reader in sorted(open_at(history)) if seen(history, reader, row) == number)
                        self.assertEqual(nw.seers(history, row, number), who)
                    else:
                        for function in (nw.seers, nw.use_of, nw.fewest_to_shut):
                            self.refuses(NoNumber(number), function, history, row, number)
                        self.refuses(NoNumber(number), nw.is_use_of, history, row, number, ((), 0))
                        self.refuses(NoNumber(number), nw.is_use_of, history, row, number, None)

    def test_wanted_by_all_that_comes(self):
        for history in self.each(histories(3)[::2] + histories(4)[::41] + [SHORT, LONG]):
            later = longer(history, MORE, 2)
            for row in "xyz":
                found = {seen(more, reader, row) for more in later for reader in open_at(more)} & set(versions(history, row))
                self.assertEqual(nw.wanted(history, row), tuple(sorted(found)))
                self.assertEqual(wanted(history, row), tuple(sorted(found)))

    def test_wanted_and_spare(self):
        for history in self.each(FEW):
            lost = [(row, number) for row in rows_in(history) for number in versions(history, row)
                    if number not in wanted(history, row)]
            self.assertEqual(nw.spare(history), tuple(lost))
            for row in "xyz":
                kept = wanted(history, row)
                self.assertEqual(nw.wanted(history, row), kept)
                self.assertLessEqual(len(kept), len(open_at(history)) + 1)
                # What is not wanted once is never wanted again.
                for more in longer(history, EVENTS, 1):
                    gone = set(versions(history, row)) - set(kept)
                    self.assertEqual(gone & set(nw.wanted(more, row)), set())

    def test_use_of(self):
        for history in self.each(FEW):
            for row in "xyz":
                for number in versions(history, row):
                    told = nw.use_of(history, row, number)
                    self.assertEqual(told is None, number not in wanted(history, row))
                    self.assertEqual(nw.use_of(list(history), row, number), told)
                    self.assertEqual(nw.is_use_of(history, row, number, told), told is not None)
                    if told is not None:
                        more, reader = told
                        self.assertIn(reader, open_at(history + more))
                        self.assertEqual(seen(history + more, reader, row), number)

    def test_all_uses(self):
        for history in ((), SHORT, LONG[:2], (("open", 0), ("commit", ("x",)))):
            for row in "xy":
                for number in versions(history, row):
                    for many in range(3):
                        for more in product(MORE, repeat=many):
                            for reader in range(-1, 5):
                                found = open_at(history + more)
                                right = found is not None and reader in found and seen(history + more, reader, row) == number
                                self.assertIs(nw.is_use_of(history, row, number, (more, reader)), right)
        for thing in (None, ((), 0, 0), [(), 0], ([], 0), ((), True), ((), None), ((), (0,)), ((("open", 0),), 0), ((None,), 0),
                      ((["open", 5],), 5), ((("open", 5),), 5)):
            self.assertIs(nw.is_use_of(SHORT, "x", 1, thing), False)
        self.assertIs(nw.is_use_of(SHORT, "x", 1, ((), 0)), True)
        self.assertIs(nw.is_use_of(SHORT, "x", 3, ((("open", 5),), 5)), True)

    def test_freed_and_shut(self):
        for history in self.each(FEW):
            readers = sorted(open_at(history))
            for reader in readers:
                after = shut(history, [reader])
                freed = [(row, number) for row in rows_in(history) for number in wanted(history, row)
                         if number not in wanted(after, row)]
                self.assertEqual(nw.freed_by(history, reader), tuple(freed))
            sets = [some for many in range(len(readers) + 1) for some in combinations(readers, many)]
            for row in "xyz":
                for number in versions(history, row):
                    able = [some for some in sets if number not in wanted(shut(history, some), row)]
                    told = nw.fewest_to_shut(history, row, number)
                    self.assertEqual(told, able[0] if able else None)
                    self.assertEqual(len([some for some in able if len(some) == len(able[0])]) if able else 1, 1)

    def test_kept_by_the_oldest(self):
        for history in self.each(FEW):
            found, needless = open_at(history), 0
            for row in "xyz":
                there = versions(history, row)
                least = seen(history, min(found, key=lambda reader: found[reader]), row) if found else there[-1]
                kept = tuple(number for number in there if number >= least)
                self.assertEqual(nw.kept_by_oldest(history, row), kept)
                if row in rows_in(history):
                    needless += len(set(kept) - set(wanted(history, row)))
            self.assertEqual(nw.needless(history), needless)

    def test_who_opens_again_is_not_the_oldest(self):
        history = (("open", 0), ("open", 1), ("commit", ("x",)), ("shut", 0), ("commit", ("x",)), ("open", 0), ("commit", ("x",)))
        self.assertEqual((nw.opened_at(history, 0), nw.opened_at(history, 1)), (2, 0))
        self.assertEqual(nw.kept_by_oldest(history, "x"), (0, 1, 2, 3))
        self.assertEqual(nw.kept_by_oldest(history + (("shut", 1),), "x"), (2, 3))
        self.assertEqual((nw.wanted(history, "x"), nw.needless(history)), ((0, 2, 3), 1))

    def test_most_kept(self):
        for history in self.each(FEW):
            left, most = {(row, 0) for row in rows_in(history)}, len(rows_in(history))
            for many in range(1, len(history) + 1):
                ahead = history[:many]
                there = {(row, versions(ahead, row)[-1]) for row in rows_in(history)} | left
                # What is not wanted goes at once.
                left = {(row, number) for row, number in there if number in wanted(ahead, row)}
                most = max(most, len(left))
            self.assertEqual(nw.most_kept(history), most)

    def test_edges(self):
        self.assertEqual((nw.how_many_commits(()), nw.open_readers(()), nw.versions_of((), "q"), nw.wanted((), "q")), (0, (), (0,), (0,)))
        self.assertEqual((nw.spare(()), nw.needless(()), nw.most_kept(()), nw.kept_by_oldest((), "q")), ((), 0, 0, (0,)))
        self.assertEqual((nw.use_of((), "q", 0), nw.fewest_to_shut((), "q", 0), nw.seers((), "q", 0)), (((("open", 0),), 0), None, ()))
        self.assertEqual((nw.first_wrong((), ()), nw.is_sweeps((), ()), nw.history_of((), ())), (None, True, ()))
        for number in (1, -1, True, False, 10 ** 9):
            self.refuses(NoNumber(number), nw.seers, (), "q", number)
        for reader in (3, -1, True, False, 10 ** 9):
            self.refuses(NoNumber(reader), nw.seen_version, SHORT, reader, "q")
            self.refuses(NoNumber(reader), nw.opened_at, SHORT, reader)
            self.refuses(NoNumber(reader), nw.freed_by, SHORT, reader)


def spares_all_reads(history, sweep):
    """Whether nobody reads this version behind so many EVENTS, whatever comes."""
    many, row, number = sweep
    return not any(seen(more, reader, row) == number for more in longer(history[:many], MORE, 2) for reader in open_at(more))


class Sweeps(Case):
    def is_right(self, history, sweep):
        many, row, number = sweep
        if not 0 <= many <= len(history) or number not in versions(history[:many], row):
            return False
        return number not in wanted(history[:many], row)

    def test_single_ones_spare_all_reads(self):
        for history in histories(3)[::9] + [SHORT[:4], LONG]:
            for sweep in product(range(len(history) + 1), "xy", range(3)):
                if sweep[2] in versions(history[:sweep[0]], sweep[1]):
                    right = spares_all_reads(history, sweep)
                    self.assertIs(nw.is_sweeps(history, (sweep,)), right)
                    self.assertEqual(nw.first_wrong(history, (sweep,)), None if right else 0)

    def test_all_pairs_and_more(self):
        for history in (SHORT, LONG, histories(4)[777], (("commit", ("x", "y")),) * 2, (("commit", ("x",)), ("open", 1), ("commit", ("x",)))):
            every = list(product(range(-1, len(history) + 2), "xyz", range(-1, 4)))
            able = [sweep for sweep in every if self.is_right(history, sweep)]
            pairs = list(product(every[::3], able)) + list(product(able, every[::3])) + list(product(able, repeat=2))
            for some in [(sweep,) for sweep in every] + pairs[::2] + list(product(able, repeat=3))[::5]:
                wrong = [at for at, sweep in enumerate(some) if not self.is_right(history, sweep)
                         or sweep[1:] in [other[1:] for other in some[:at]]]
                self.assertEqual(nw.first_wrong(history, some), wrong[0] if wrong else None)
                self.assertIs(nw.is_sweeps(history, some), not wrong)

    def test_nothing_is_raised(self):
        for sweep in ((10 ** 9, "x", 0), (-10 ** 9, "x", 0), (0, "q", 0), (0, "q", -1), (4, "x", 10 ** 9), (4, "abcdefgh", 1)):
            self.assertEqual(nw.first_wrong(LONG, ((4, "x", 1), sweep)), 1)
            self.assertIs(nw.is_sweeps(LONG, ((4, "x", 1), sweep)), False)

    def test_what_are_no_sweeps(self):
        for thing in (None, [(4, "x", 1)], ([4, "x", 1],), ((4, "x", True),), ((None, "x", 1),), ((4, "x"),), ((4, "x", 1, 0),), ((4, 0, 1),),
                      ((4, ("x",), 1),), ((4, ["x"], 1),), ((True, "x", 0),), "x", ((4, "x", 1), None), ((4, "x", 0),), ((4, "x", 3),)):
            self.assertIs(nw.is_sweeps(LONG, thing), False)
        self.assertIs(nw.is_sweeps(LONG, ((4, "x", 2), (3, "x", 1))), True)


class OfMixes(Case):
    def test_history_of(self):
        for jobs in small_jobs()[::6] + random_jobs(31, 15, "abc", 3, 2):
            for mix in oracle.mixes(jobs)[::17]:
                with self.subTest(jobs=jobs, mix=mix):
                    self.check(jobs, mix)

    def check(self, jobs, mix):
        history, wanted = nw.history_of(jobs, mix), []
        for move, place in enumerate(mix):
            raised, rows = jobs[place][0] != "plain", tuple(sorted({row for _, row in oracle.writes(jobs, place)}))
            if raised and move == oracle.begin(jobs, mix, place):
                wanted.append(("open", place))
            if move == oracle.commit(jobs, mix, place):
                wanted += [("shut", place)] * raised + [("commit", rows)] * bool(rows)
        self.assertEqual(history, tuple(wanted))
        self.assertIs(nw.is_history(history), True)
        # Guarantee: what reads of such a JOB see is what it sees here.
        writers = sorted([place for place in range(len(jobs)) if oracle.writes(jobs, place)],
                         key=lambda place: oracle.commit(jobs, mix, place))
        for place, (level, _) in enumerate(jobs):
            if level != "plain":
                ahead = history[:history.index(("shut", place))]
                for step, row in oracle.reads(jobs, place):
                    number = nw.seen_version(ahead, place, row)
                    self.assertEqual(writers[number - 1] if number else None, oracle.seen(jobs, mix, place, step))

    def test_without_steps(self):
        self.assertEqual(nw.history_of((("shot", ()), ("plain", ()), ("watched", (("write", "b"), ("write", "a")))), (1, 2, 0, 2, 2)),
                         (("open", 2), ("open", 0), ("shut", 0), ("shut", 2), ("commit", ("a", "b"))))


if __name__ == "__main__":
    unittest.main()
