"""The bounds of [3] and of [15] to [22]: each function answers there, and what it answers holds."""

import random
import unittest

import oracle
from nosplit import blame, desk, judge, log, mixes, orders, smooth, splits, store, sweeps, texts
from nosplit.board import Board
from test_bounds import KINDS, ROWS, mixed
from test_wide import SPARSE


def locks(level, many, most):
    """JOBS that write all ROWS, each beginning with another one."""
    return tuple((level, tuple(("write", ROWS[(place + at) % 8]) for at in range(most))) for place in range(many))


class Smooth(unittest.TestCase):
    def test_six_jobs_of_eight_steps(self):
        several = [kind[:6] for kind in KINDS] + [SPARSE[:6]] + [locks(level, 6, 8) for level in oracle.LEVELS]
        several += [locks("shot", 6, 2), tuple(("watched", (("write", "g"),) + tuple(("write", "abcdef"[(place + at) % 6]) for at in range(6)))
                                          for place in range(6))]
        for jobs in several:
            jam, told, highest = smooth.least_jam(jobs), smooth.stumble(jobs), smooth.smooth_levels(jobs)
            self.assertEqual(smooth.is_jam(jobs, jam), jam is not None)
            self.assertEqual(smooth.is_smooth(jobs), told is None)
            self.assertEqual(smooth.is_stumble(jobs, told), told is not None)
            self.assertEqual(highest is None, jam is not None)
            if highest is not None:
                at_best = tuple((level, steps) for level, (_, steps) in zip(highest, jobs))
                self.assertIs(smooth.is_smooth(at_best), True)
                for place in smooth.bare_jobs(jobs):
                    raised = at_best[:place] + (("shot", jobs[place][1]),) + at_best[place + 1:]
                    self.assertIs(smooth.is_smooth(raised), False)

    def test_a_ring_of_six(self):
        jobs = tuple(("plain", (("read", "h"), ("write", ROWS[place]), ("read", "g"), ("write", ROWS[(place + 1) % 6]))) for place in range(6))
        self.assertEqual(smooth.least_jam(jobs), tuple((place, 3) for place in range(6)))
        self.assertIsNone(smooth.least_jam(jobs[:5]))
        self.assertIs(smooth.is_stumble(jobs, smooth.stumble(jobs)), True)
        gated = tuple(("watched", (("write", "h"),) + steps[1:]) for _, steps in jobs)
        self.assertEqual((smooth.least_jam(gated), smooth.smooth_levels(gated)), (None, ("watched",) * 6))


class Sweeps(unittest.TestCase):
    def history(self, seed):
        """200 EVENTS with up to 40 readers, eight ROWS."""
        chance, found, able = random.Random(seed), [], []
        while len(found) < 200:
            word = chance.choice(("open", "shut", "commit", "commit"))
            if word == "open" and len(able) < 40:
                able.append(min(number for number in range(41) if number not in able))
                found.append(("open", able[-1]))
            elif word == "shut" and able and chance.random() < 0.7:
                found.append(("shut", able.pop(chance.randrange(len(able)))))
            elif word == "commit":
                found.append(("commit", tuple(sorted(chance.sample(ROWS, chance.randint(1, 3))))))
        return tuple(found)

    def test_two_hundred_events(self):
        for history in [self.history(seed) for seed in range(4)] + [(("open", 0),) + (("commit", tuple(ROWS)),) * 199]:
            self.assertIs(sweeps.is_history(history), True)
            spare, readers = sweeps.spare(history), sweeps.open_readers(history)
            taken = tuple((200, row, number) for row, number in spare)
            self.assertIs(sweeps.is_sweeps(history, taken), True)
            self.assertEqual(sweeps.first_wrong(history, taken + taken[:1]), len(taken) if taken else None)
            self.assertLessEqual(sweeps.needless(history), len(spare))
            for row in ROWS:
                wanted = sweeps.wanted(history, row)
                self.assertEqual(set(sweeps.versions_of(history, row)) - set(wanted), {number for other, number in spare if other == row})
                self.assertLessEqual(set(wanted), set(sweeps.kept_by_oldest(history, row)))
                for number in wanted:
                    self.assertIs(sweeps.is_use_of(history, row, number, sweeps.use_of(history, row, number)), True)
                    self.assertEqual(sweeps.fewest_to_shut(history, row, number) is None, number == wanted[-1])
            for reader in readers:
                self.assertTrue(all(sweeps.seers(history, row, number) == (reader,) for row, number in sweeps.freed_by(history, reader)))
                self.assertLessEqual(sweeps.opened_at(history, reader), sweeps.how_many_commits(history))
            self.assertGreaterEqual(sweeps.most_kept(history), sum(len(sweeps.wanted(history, row)) for row in ROWS))

    def test_histories_of_twelve_jobs(self):
        for jobs in KINDS:
            history = sweeps.history_of(jobs, mixed(jobs, 5))
            self.assertIs(sweeps.is_history(history), True)
            self.assertEqual(sweeps.open_readers(history), ())


class Blame(unittest.TestCase):
    def let_mix(self, jobs, step):
        """A MIX that is let: turns by this step, barred ones passed over; None if it comes to a halt."""
        done, place = (), 0
        while len(done) < sum(len(steps) + 1 for _, steps in jobs):
            able = store.may_come(jobs, done)
            if not able:
                return None
            place = able[(len(done) * step) % len(able)]
            done += (place,)
        return done

    def jobs(self, many):
        """JOBS of eight STEPS that can come in turns: each one writes a ROW of its own."""
        found = []
        for place in range(many):
            reads = tuple(("read", ROWS[(place + at) % 8]) for at in range(1, 7))
            found.append(("plain", reads + (("write", ROWS[place % 8]), ("read", ROWS[(place + 7) % 8]))))
        return tuple(found)

    def test_five_jobs(self):
        jobs = self.jobs(5)
        for step in (1, 3):
            mix = self.let_mix(jobs, step)
            hurting = blame.hurting_levels(jobs, mix)
            self.assertIn(("plain",) * 5, hurting)
            self.assertTrue(all(blame.hurts(jobs, mix, told) for told in hurting[::20]))
            clearing, refusing = blame.clearing_raises(jobs, mix), blame.refusing_raises(jobs, mix)
            self.assertTrue(clearing)
            self.assertFalse(any(blame.hurts(jobs, mix, told) for told in clearing))
            self.assertTrue(all(blame.barred_with(jobs, mix, told) is not None for told in refusing))
            self.assertTrue(all(blame.barred_with(jobs, mix, told) is None for told in blame.letting_levels(jobs, mix)))
            blame.single_raises(jobs, mix)

    def test_eight_and_twelve_jobs(self):
        for many in (8, 12):
            jobs = self.jobs(8) + tuple(("shot", tuple(("read", row) for row in ROWS)) for _ in range(many - 8))
            mix = self.let_mix(jobs, 5)
            split = blame.split_shown(jobs, mix)
            self.assertIs(blame.is_split_shown(jobs, mix, split), True)
            undone = blame.refused_in_turn(jobs, mix)
            self.assertIs(blame.is_enough_undone(jobs, mix, undone), True)
            for place in blame.lone_undos(jobs, mix):
                self.assertIs(blame.is_enough_undone(jobs, mix, (place,)), True)
            if many == 8:
                least = blame.undo_sets(jobs, mix)
                self.assertTrue(all(blame.is_enough_undone(jobs, mix, some) for some in least))
                self.assertIn(blame.cheapest_undone(jobs, mix, (10 ** 9, 0, 1, 2, 0, 10 ** 9, 3, 1)), least)


class Logs(unittest.TestCase):
    BOOK = (("a", "b", "c"), ("d",), ("e", "f"), ())
    WORK = (("set", "u", "a"), ("log", 1), ("flush",), ("set", "u", "b"), ("set", "v", "d"), ("end", "u"), ("set", "w", "a"), ("out", 0),
            ("set", "v", "e"), ("out", 1), ("out", 2), ("end", "v"), ("set", "w", "d"), ("out", 0), ("out", 1), ("out", 2), ("set", "w", "f"),
            ("out", 0), ("out", 1), ("out", 2), ("out", 0), ("out", 2), ("log", 8), ("told", "u"))

    def test_twenty_four_deeds(self):
        self.assertEqual(len(self.WORK), 24)
        self.assertIs(log.is_deeds(self.BOOK, self.WORK), True)
        disks = log.log_disks(self.BOOK, self.WORK, 24)
        self.assertGreater(len(disks), 800)
        self.assertEqual(disks, sorted(set(disks)))
        wrong = [disk for disk in disks if not log.is_right(self.BOOK, self.WORK, 24, disk)]
        self.assertTrue(wrong)
        self.assertTrue(all(log.is_breach(self.BOOK, self.WORK, (24, disk)) for disk in wrong[::9]))
        self.assertIs(log.is_breach(self.BOOK, self.WORK, log.breach(self.BOOK, self.WORK)), True)
        for number in range(25):
            log.bare_cells(self.BOOK, self.WORK, number), log.bare_told(self.WORK, number), log.log_ahead(self.WORK, number)
        for page in range(4):
            self.assertLessEqual(log.log_first(self.BOOK, self.WORK, page), 9)

    def test_two_thousand_disks_that_are_right(self):
        work = ((("set", "u", "a"), ("set", "v", "d"), ("set", "v", "e"), ("log", 3), ("flush",))
                + (("out", 0), ("out", 1), ("out", 2)) * 5 + (("end", "u"), ("end", "v"), ("log", 2), ("out", 3)))
        self.assertEqual(len(work), 24)
        disks = log.log_disks(self.BOOK, work, 24)
        self.assertEqual(len(disks), 3 * 6 * 6 * 6 * 2)
        self.assertIsNone(log.breach(self.BOOK, work))
        self.assertTrue(all(log.is_right(self.BOOK, work, 24, disk) for disk in disks[::37]))
        self.assertIs(judge.stands(("lasting", self.BOOK, work)), True)


class Judge(unittest.TestCase):
    def test_twelve_jobs(self):
        for jobs in KINDS + [SPARSE]:
            mix = mixed(jobs, 5)
            for claim in [("safe", jobs), ("let", jobs, mix), ("straight", jobs, mix), ("not lower", jobs, ("shot",) * 12),
                          ("smooth", jobs[:6]), ("safe by", jobs[:8], ((0, 3), (3, 5)))] + [("no head", jobs, head) for head in (0, 5, 11)]:
                paper = judge.paper_against(claim)
                self.assertEqual(judge.stands(claim), paper is None)
                self.assertEqual(judge.is_paper_against(claim, paper), paper is not None)
            if judge.stands(("safe", jobs)):
                self.assertIs(judge.is_reason_for(("safe", jobs), judge.reason_for(("safe", jobs))), True)
            self.assertIs(judge.stands(("safe", tuple((level, steps) for level, (_, steps) in zip(
                judge.levels_that_mend(("safe", jobs[:5]))[0], jobs[:5])))), True)


class Texts(unittest.TestCase):
    def test_sixty_lines_of_four_hundred(self):
        # Eight reads and eight writes of ROWS of eight signs, and more: lines of nearly four hundred signs.
        rows = [sign * 8 for sign in "abcdefghijklmnopqrstuvwxyz"]
        jobs = tuple(("watched", tuple(("read", row) for row in rows[:26])) for _ in range(60))
        text = texts.jobs_text(jobs)
        self.assertEqual(max(len(line) for line in text.splitlines()), 7 + 26 * 14)
        self.assertEqual(texts.read_jobs(text), jobs)
        numbers = tuple(range(100, 200))
        self.assertEqual(texts.read_mix(texts.mix_text(numbers)), numbers)
        outcome = (tuple((None, 10 ** 300) for _ in range(30)), tuple((row, numbers[:90]) for row in rows))
        self.assertEqual(texts.read_outcome(texts.outcome_text(outcome)), outcome)
        self.assertEqual(texts.read_split("0 0 " + " ".join(map(str, numbers[:90]))), (0, 0, numbers[:90]))
        self.assertEqual(texts.read_levels("plain " * 60 + "shot"), ("plain",) * 60 + ("shot",))


class Boards(unittest.TestCase):
    def test_eight_workers_of_eight_steps(self):
        board = Board(tuple((row, 10 ** 9) for row in ROWS))
        for number in range(8):
            board.enter(oracle.LEVELS[number % 3])
        for at in range(4):
            for number in range(8):
                board.read(number, ROWS[(number + at) % 8])
        for number in range(8):
            board.write(number, ROWS[number], -number)
        for number in range(8):
            board.read(number, ROWS[(number + 5) % 8])
        self.assertEqual(len(board), 56)
        for number in (7, 0):
            board.commit(number)
        board.flush()
        self.assertEqual((len(board.steps(3)), board.sweep(), len(board)), (6, 0, 60))
        for number in range(1, 7):
            for row in ROWS:
                if len(board.steps(number)) < 8 and ("read", row) not in board.steps(number) and row != ROWS[number]:
                    board.read(number, row)
        self.assertEqual(len(board.steps(3)), 8)
        for number in range(1, 7):
            try:
                board.commit(number)
            except ValueError:
                board.drop(number)
        self.check(board)

    def check(self, board):
        jobs, mix = board.jobs(), board.mix()
        self.assertIs(mixes.is_mix(jobs, mix), True)
        self.assertIs(store.is_let(jobs, mix), True)
        self.assertEqual(board.straight_so_far(), orders.is_straight(jobs, mix))
        self.assertEqual(board.safe_so_far(), splits.safe(jobs))
        self.assertEqual(len(board.needed()), len(jobs))
        self.assertEqual(board.twin(), board)
        board.too_low(), board.log(), board.rows()
        many = len(board.workers("committed")) - len(board.told())
        board.fall(many)
        self.assertEqual((board.workers("open"), board.log()), ((), ()))

    def test_a_desk_of_sixty_lines(self):
        lines = ["enter shot", "enter plain", "enter watched"] + [f"read {number} {row}" for row in ROWS for number in range(3)]
        lines += ["write 0 a -1000000000", "write 1 b 1000000000", "commit 0", "commit 1", "commit 2", "flush", "sweep"]
        lines += ["rows", "versions a", "jobs", "mix", "needed", "straight", "safe", "low", "told", "workers committed", "deeds"]
        lines += ["state 0"] * (60 - len(lines))
        told = desk.replies(tuple((row, 0) for row in ROWS), "\n".join(lines))
        self.assertEqual((len(told), told[34:36], told[-1]), (60, ["a -1000000000 / b 1000000000 / c 0 / d 0 / e 0 / f 0 / g 0 / h 0", "0 -1000000000"],
                                                          "committed"))


if __name__ == "__main__":
    unittest.main()
