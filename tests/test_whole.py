"""[1] to [22] together: what the points say of one another where they meet."""

import random
import unittest

import interface
import oracle
import test_board
import test_waits
from nosplit import blame, desk, histories, judge, levels, log, orders, sessions, smooth, splits, store, sweeps, texts, waits
from nosplit.board import Board
from nosplit.errors import Held, Late, Pinched
from support import Case, random_jobs, small_jobs

SOME = small_jobs()[::2] + random_jobs(91, 25, "ab", 3, 3) + random_jobs(92, 25, "abc", 4, 3)
SHORT = [jobs for jobs in small_jobs() if jobs and sum(len(steps) + 1 for _, steps in jobs) <= 8]


def board_for(jobs):
    """A Board with a worker for each of these JOBS."""
    rows = sorted({row for _, steps in jobs for _, row in steps} | {"a"})
    board = Board(tuple((row, -1) for row in rows))
    for level, _ in jobs:
        board.enter(level)
    return board


def go(board, jobs, place, step):
    """The move of this JOB; each JOB writes the number of its place."""
    if step == len(jobs[place][1]):
        return board.commit(place)
    kind, row = jobs[place][1][step]
    return board.read(place, row) if kind == "read" else board.write(place, row, place)


class Splits(Case):
    def test_a_split_before_the_judge(self):
        for jobs in SOME:
            split, claim = splits.split_in(jobs), ("safe", jobs)
            with self.subTest(jobs=jobs):
                self.assertEqual(judge.stands(claim), split is None)
                for split in splits.all_splits(jobs, 3)[:12]:
                    mix = splits.split_mix(jobs, split)
                    self.assertIs(judge.is_paper_against(claim, mix), True)
                    self.assertIs(judge.is_paper_against(("no head", jobs, split[0]), split), True)
                    self.assertIs(judge.is_paper_against(("straight", jobs, mix), splits.split_ring(jobs, split)), True)
                    self.assertIs(judge.stands(("let", jobs, mix)), True)
                    self.check_blame(jobs, mix, split)

    def check_blame(self, jobs, mix, split):
        self.assertIs(blame.hurts(jobs, mix, [level for level, _ in jobs]), True)
        self.assertIs(blame.is_split_shown(jobs, mix, split), True)
        shown = blame.split_shown(jobs, mix)
        self.assertIs(splits.is_split(jobs, shown), True)
        self.assertIs(orders.is_ring(orders.edges(jobs, mix), splits.split_ring(jobs, shown)), True)
        self.assertTrue(any(place in split[2] + split[:1] for some in blame.undo_sets(jobs, mix) for place in some))
        self.assertIs(sessions.is_straight_by(jobs, (), mix), False)
        self.assertEqual(texts.read_split(texts.split_text(shown)), shown)

    def test_reasons_and_levels(self):
        for jobs in SOME:
            raised = judge.levels_that_mend(("safe", jobs))[0]
            mended = ("safe", tuple((level, steps) for level, (_, steps) in zip(raised, jobs)))
            self.assertIs(levels.is_enough(jobs, raised), True)
            self.assertIs(judge.is_reason_for(mended, judge.reason_for(mended)), True)
            self.assertIs(judge.stands(("not lower", jobs, levels.least_levels(jobs))), True)
            self.assertEqual(sessions.least_by(jobs, ()), levels.least_levels(jobs))


class Mixes(Case):
    def test_every_mix_on_a_board(self):
        """A Board refuses just the moves that are barred, and by whom; what is read is what is seen."""
        pinching = ("watched", (("read", "a"), ("write", "b"))), ("watched", (("read", "b"), ("write", "a")))
        for jobs in SHORT + [pinching, pinching + (("watched", (("read", "b"),)),)]:
            for mix in oracle.mixes(jobs)[::1 + len(oracle.mixes(jobs)) // 60]:
                with self.subTest(jobs=jobs, mix=mix):
                    self.check(jobs, mix)

    def check(self, jobs, mix):
        board, counts, seen = board_for(jobs), [0] * len(jobs), store.seen_by(jobs, mix)
        barred = store.first_barred(jobs, mix)
        read = [iter(told) for told in seen]
        for move, place in enumerate(mix):
            step = counts[place]
            if barred is not None and move == barred[0]:
                self.check_refusal(board, jobs, mix, move, step)
                return
            value = go(board, jobs, place, step)
            if step < len(jobs[place][1]) and jobs[place][1][step][0] == "read":
                told = next(read[place])
                self.assertEqual(value, -1 if told is None else told)
            counts[place] += 1
        self.assertEqual((board.jobs(), board.mix()), (jobs, mix))
        self.assertEqual(board.straight_so_far(), orders.is_straight(jobs, mix))
        rows = dict(store.outcome(jobs, mix)[1])
        for row in rows:
            self.assertEqual([number for number, _ in board.versions(row)][1:], list(rows[row]))

    def check_refusal(self, board, jobs, mix, move, step):
        place, by = mix[move], store.barred_by(jobs, mix, move)
        if step == len(jobs[place][1]):
            self.refuses(Pinched(), board.commit, place)
            return
        with self.assertRaises((Held, Late)) as caught:
            go(board, jobs, place, step)
        self.assertIn(caught.exception.number, by)
        held = dict(store.held_at(jobs, mix, move))
        row = jobs[place][1][step][1]
        self.assertEqual(type(caught.exception), Held if held.get(row, place) != place else Late)

    def test_waits_on_a_board(self):
        for jobs in SHORT[::4]:
            for done in test_waits.Store(jobs).beginnings()[::7]:
                board, counts = board_for(jobs), [0] * len(jobs)
                try:
                    for place in done:
                        go(board, jobs, place, counts[place])
                        counts[place] += 1
                except Pinched:
                    continue
                for row, _ in board.rows():
                    holder = board.holder(row)
                    self.assertEqual(holder is not None, any(row in waits.held_rows(jobs, done, place) for place in range(len(jobs))))
                    self.assertTrue(holder is None or row in waits.held_rows(jobs, done, holder))
                for place in range(len(jobs)):
                    other = waits.waits_for(jobs, done, place)
                    if other is not None:
                        self.refuses(Held(other), go, board.twin(), jobs, place, counts[place])

    def test_sweeps_on_a_board(self):
        """Where all commits are told a sweep leaves just the versions that are wanted."""
        for jobs in SHORT[::3]:
            for mix in [mix for mix in oracle.mixes(jobs)[::9] if store.is_let(jobs, mix)]:
                board, counts, ended = board_for(jobs), [0] * len(jobs), []
                for move, place in enumerate(mix):
                    go(board, jobs, place, counts[place])
                    counts[place] += 1
                    if counts[place] > len(jobs[place][1]) and oracle.writes(jobs, place):
                        ended.append(place)
                    board.flush(), board.sweep()
                    self.check_wanted(board, self.history(jobs, mix[:move + 1], counts), [None] + ended)

    def history(self, jobs, done, counts):
        """The HISTORY of what has been done so far."""
        rest = [place for place, (_, steps) in enumerate(jobs) for _ in range(len(steps) + 1 - counts[place])]
        events, many = sweeps.history_of(jobs, done + tuple(rest)), 0
        for move, place in enumerate(done):
            raised, last = jobs[place][0] != "plain", done[:move + 1].count(place) == len(jobs[place][1]) + 1
            many += raised * (place not in done[:move]) + last * (raised + bool(oracle.writes(jobs, place)))
        return events[:many]

    def check_wanted(self, board, history, numbers):
        self.assertIs(sweeps.is_history(history), True)
        for row, _ in board.rows():
            self.assertEqual([number for number, _ in board.versions(row)], [numbers[told] for told in sweeps.wanted(history, row)])

    def test_tales_and_swaps(self):
        for jobs in SHORT[::5]:
            for mix in [mix for mix in oracle.mixes(jobs)[::11] if store.is_let(jobs, mix)]:
                tale = histories.tale_by(jobs, mix)
                self.assertEqual(tale, texts.read_outcome(texts.outcome_text(store.outcome(jobs, mix))))
                self.assertIs(histories.is_mix_of(jobs, tale, mix), True)
                if not any(level == "watched" for level, _ in jobs):
                    self.assertIs(judge.stands(("comes", jobs, tale)), True)
                    self.assertIs(judge.is_paper_against(("never", jobs, tale), mix), True)

    def test_smooth_and_stumbles(self):
        for jobs in SHORT[::3]:
            told = smooth.stumble(jobs)
            self.assertEqual(judge.paper_against(("smooth", jobs)), told)
            if told is not None:
                lost = waits.loss(jobs, told)
                self.assertIs(waits.is_loss(jobs, told, lost), True)
                self.assertLess(len(waits.can_end(jobs, told)) - 1, len(jobs))


class Boards(Case):
    def boards(self, first, last):
        for seed in range(first, last):
            board = test_board.done_on(test_board.drawn_deeds(seed, 34))
            with self.subTest(seed=seed):
                yield board

    def test_before_the_judge(self):
        for board in self.boards(500, 540):
            jobs, mix = board.jobs(), board.mix()
            self.assertIs(judge.stands(("let", jobs, mix)), True)
            self.assertIs(judge.stands(("straight", jobs, mix)), board.straight_so_far())
            self.assertIs(judge.stands(("safe", jobs)), board.safe_so_far())
            self.assertIs(judge.stands(("not lower", jobs, board.needed())), True)
            self.assertEqual(judge.levels_that_mend(("safe", jobs))[0] == tuple(level for level, _ in jobs), board.too_low() == ())
            self.assertIs(judge.stands(("lasting", (tuple(row for row, _ in board.rows()),), board.log())), True)
            self.assertEqual(blame.undo_sets(jobs, mix) == [()], board.straight_so_far())
            self.assertEqual(blame.split_shown(jobs, mix) is None, board.straight_so_far())
            self.assertIs(waits.is_kept(jobs, mix), True)

    def test_a_log_page_put_out_where_the_log_says_so(self):
        for board in self.boards(540, 560):
            pages, deeds = (tuple(row for row, _ in board.rows()),), board.log()
            for at in range(len(deeds) + 1):
                least, low = log.log_first(pages, deeds[:at], 0), log.log_ahead(deeds, at)[0]
                if least <= low:
                    self.assertIs(judge.stands(("lasting", pages, deeds[:at] + (("out", 0),) + deeds[at:])), True)
                else:
                    self.assertIs(judge.stands(("lasting", pages, deeds[:at] + (("out", 0),))), False)

    def test_texts_of_a_board(self):
        for board in self.boards(560, 590):
            self.assertEqual(texts.read_jobs(texts.jobs_text(board.jobs())), board.jobs())
            self.assertEqual(texts.read_mix(texts.mix_text(board.mix())), board.mix())
            self.assertEqual(texts.read_levels(texts.levels_text(board.needed())), board.needed())

    def test_a_desk_beside_a_board(self):
        for seed in range(590, 610):
            deeds = test_board.drawn_deeds(seed, 30)
            board = test_board.done_on(deeds)
            lines = [" ".join(map(str, deed)) for deed in deeds] + ["jobs", "mix", "needed", "deeds"]
            told = desk.replies(test_board.ROWS, "\n".join(lines))[-4:]
            self.assertEqual(texts.read_jobs(told[0].replace(" / ", "\n") if told[0] != "-" else ""), board.jobs())
            self.assertEqual((texts.read_mix(told[1]), texts.read_levels(told[2]), told[3]), (board.mix(), board.needed(), str(len(board))))


class Program(Case):
    def test_calls_leave_no_trace(self):
        """What is asked once more, other things asked in between, is told alike."""
        chance, names = random.Random(93), interface.all_names()
        jobs = random_jobs(94, 6, "abc", 3, 3)
        asked = [("split_in", (one,)) for one in jobs] + [("stumble", (one,)) for one in jobs] + [("least_levels", (one,)) for one in jobs]
        asked += [("least_jam", (one,)) for one in jobs] + [("paper_against", (("safe", one),)) for one in jobs]
        first = [names[name](*told) for name, told in asked]
        for _ in range(3):
            turn = list(range(len(asked)))
            chance.shuffle(turn)
            for at in turn:
                self.assertEqual(names[asked[at][0]](*asked[at][1]), first[at])


if __name__ == "__main__":
    unittest.main()
