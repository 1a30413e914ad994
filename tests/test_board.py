"""[21]: nosplit/board.py, held against a slow model of a Board that keeps all versions, and its guarantees."""

import random
import unittest

import interface
import oracle
import samples
from nosplit import log, splits
from nosplit.board import Board
from nosplit.errors import Held, Late, NoNumber, NoRow, Pinched, Unfit
from support import Case

ROWS = (("x", 5), ("y", 0), ("z", -7))
STATES = ("open", "committed", "gone")


class Model:
    """The deeds that were done, and all that is told of them, told from them anew each time."""

    def __init__(self, rows):
        self.began = rows
        self.deeds = []

    def workers(self):
        """For each worker a dict of what it is and did; times are numbers of deeds."""
        found = []
        for time, (name, *told) in enumerate(self.deeds):
            if name == "enter":
                found.append({"level": told[0], "steps": [], "values": {}, "times": [], "end": None, "told": False, "gone": None})
            elif name in ("read", "write"):
                found[told[0]]["steps"].append((name, told[1]))
                found[told[0]]["times"].append(time)
                if name == "write":
                    found[told[0]]["values"][told[1]] = told[2]
            elif name == "commit":
                found[told[0]]["times"].append(time)
                found[told[0]]["end"] = time
            elif name == "drop":
                found[told[0]]["gone"] = time
            elif name in ("flush", "fall"):
                waiting = sorted((one for one in found if self.state(one) == "committed" and not one["told"]), key=lambda one: one["end"])
                stay = len(waiting) if name == "flush" else told[0]
                for one in waiting[:stay]:
                    one["told"] = True
                if name == "fall":
                    for one in found:
                        if one in waiting[stay:] or self.state(one) == "open":
                            one["gone"] = time
        return found

    def state(self, one):
        return "gone" if one["gone"] is not None else "open" if one["end"] is None else "committed"

    def who(self, state):
        return [number for number, one in enumerate(self.workers()) if self.state(one) == state]

    def by_commit(self):
        workers = self.workers()
        return sorted(self.who("committed"), key=lambda number: workers[number]["end"])

    def every_version(self, row):
        """Pairs of a worker and a value, thrown away or not, of those who are committed."""
        workers = self.workers()
        return [(None, dict(self.began)[row])] + [(number, workers[number]["values"][row]) for number in self.by_commit()
                                                  if row in workers[number]["values"]]

    def seen(self, number, row):
        workers = self.workers()
        one, line = workers[number], self.every_version(row)
        if one["level"] == "plain" or not one["times"]:
            return line[-1]
        return [version for version in line if version[0] is None or workers[version[0]]["end"] < one["times"][0]][-1]

    def thrown(self, row):
        """The versions that a sweep would throw away now, whether they are there still or not."""
        workers, line = self.workers(), self.every_version(row)
        readers = [number for number in self.who("open") if workers[number]["level"] != "plain" and workers[number]["times"]]
        kept = [self.seen(number, row) for number in readers]
        return [version for at, version in enumerate(line)
                if any(workers[other]["told"] for other, _ in line[at + 1:]) and version not in kept]

    def versions(self, row):
        """Those not thrown away by the sweeps so far."""
        gone, deeds = [], self.deeds
        for time, deed in enumerate(deeds):
            if deed == ("sweep",):
                self.deeds = deeds[:time]
                gone += self.thrown(row)
        self.deeds = deeds
        return tuple(version for version in self.every_version(row) if version not in gone)

    def jobs(self, numbers):
        workers = self.workers()
        return tuple((workers[number]["level"], tuple(workers[number]["steps"])) for number in numbers)

    def mix(self, numbers, more=()):
        workers = self.workers()
        times = sorted((time, number) for number in numbers for time in workers[number]["times"])
        return tuple(numbers.index(number) for _, number in times) + tuple(numbers.index(number) for number in more)

    def log(self):
        found, workers = [], self.workers()
        for name, *told in self.deeds:
            if name == "fall":
                found = []
            elif name == "flush":
                found.append(("flush",))
            elif name == "commit":
                letter, one = "abcdefgh"[told[0]], workers[told[0]]
                sets = [("set", letter, row) for kind, row in one["steps"] if kind == "write"]
                found += sets + [("end", letter), ("log", len(sets) + 1)]
        return tuple(found)

    def error(self, name, *told):
        """The error that this deed raises; None if it is done."""
        workers = self.workers()
        if name == "fall":
            waiting = [number for number in self.by_commit() if not workers[number]["told"]]
            return None if 0 <= told[0] <= len(waiting) else NoNumber(told[0])
        if name not in ("read", "write", "commit", "drop"):
            return None
        if not 0 <= told[0] < len(workers):
            return NoNumber(told[0])
        one = workers[told[0]]
        if self.state(one) != "open":
            return Unfit()
        if name in ("read", "write"):
            return self.error_of_step(name, told[0], one, told[1])
        if name == "commit":
            numbers = sorted(self.who("committed") + [told[0]])
            if oracle.pinches(self.jobs(numbers), self.mix(numbers, told)):
                return Pinched()
        return None

    def error_of_step(self, name, number, one, row):
        if row not in dict(self.began):
            return NoRow(row)
        if row in one["values"] or name == "read" and ("read", row) in one["steps"]:
            return Unfit()
        workers = self.workers()
        if name == "write":
            holders = [other for other in self.who("open") if row in workers[other]["values"]]
            if holders:
                return Held(holders[0])
            since = [other for other in self.by_commit() if row in workers[other]["values"]
                     and one["times"] and workers[other]["end"] > one["times"][0]]
            if one["level"] != "plain" and since:
                return Late(since[0])
        return None

    def result(self, name, *told):
        """What this deed, which raises nothing, returns."""
        if name == "enter":
            return len(self.workers())
        if name == "read":
            return self.seen(*told)[1]
        if name == "sweep":
            return sum(len([version for version in self.versions(row) if version in self.thrown(row)]) for row, _ in self.began)
        return None


def answers(board, ask_versions=True):
    """All that a Board tells, but its length and whom it equals."""
    numbers = range(sum(len(board.workers(state)) for state in STATES))
    told = [board.rows(), board.told(), board.log(), board.jobs(), board.mix(), board.needed(), board.too_low(),
            board.straight_so_far(), board.safe_so_far(), [board.workers(state) for state in STATES],
            [board.holder(row) for row, _ in board.rows()],
            [(board.level(number), board.steps(number), board.state(number)) for number in numbers]]
    return told + [board.versions(row) for row, _ in board.rows()] * ask_versions


def drawn_deed(chance, model):
    """A deed that may raise errors."""
    many, able = len(model.workers()), model.who("open")
    worker, row = chance.randint(-1, many), chance.choice("xyzxyzxyzxyzq")
    if able and chance.random() < 0.93:
        worker = chance.choice(able)
    name = chance.choice(["read"] * 6 + ["write"] * 6 + ["commit"] * 4 + ["drop", "flush", "fall", "sweep"])
    if many < 8 and len(able) < chance.randint(1, 4):
        return "enter", chance.choice(oracle.LEVELS + ("watched",))
    if name == "fall":
        return (name, chance.randint(-1, 3)) if chance.random() < 0.6 else ("sweep",)
    if name in ("commit", "drop"):
        return name, worker
    if name == "read":
        return name, worker, row
    return (name, worker, row, chance.randint(-9, 9)) if name == "write" else (name,)


def drawn_deeds(seed, many):
    """So many deeds that raise nothing, with those that do among them."""
    chance, model, found = random.Random(seed), Model(ROWS), []
    while len(model.deeds) < many:
        deed = drawn_deed(chance, model)
        found.append(deed)
        if model.error(*deed) is None:
            model.deeds.append(deed)
    return found


def do(board, deed):
    return getattr(board, deed[0])(*deed[1:])


def done_on(deeds, rows=ROWS):
    """A Board with these deeds done, errors passed over."""
    board = Board(rows)
    for deed in deeds:
        try:
            do(board, deed)
        except (LookupError, ValueError):
            pass
    return board


class Boards(Case):
    def test_against_the_model(self):
        for seed in range(60):
            board, model = Board(ROWS), Model(ROWS)
            for deed in drawn_deeds(seed, 34):
                with self.subTest(seed=seed, done=model.deeds, deed=deed):
                    error = model.error(*deed)
                    before = (answers(board), len(board), board.twin())
                    if error is not None:
                        self.refuses(error, getattr(board, deed[0]), *deed[1:])
                        # A call that raises an error changes nothing, and is no deed.
                        self.assertEqual((answers(board), len(board), board), before)
                        continue
                    wanted = model.result(*deed)
                    self.assertEqual(do(board, deed), wanted)
                    model.deeds.append(deed)
                    self.assertNotEqual(board, before[2])
            self.check_answers(board, model)

    def test_answers_behind_each_deed(self):
        for seed in range(60, 85):
            board, model = Board(ROWS), Model(ROWS)
            for deed in drawn_deeds(seed, 26):
                if model.error(*deed) is None:
                    do(board, deed)
                    model.deeds.append(deed)
                    with self.subTest(seed=seed, done=model.deeds):
                        self.check_answers(board, model)

    def check_answers(self, board, model):
        workers, committed = model.workers(), model.who("committed")
        self.assertEqual(len(board), len(model.deeds))
        self.assertEqual(board.rows(), tuple((row, model.every_version(row)[-1][1]) for row, _ in ROWS))
        for row, _ in ROWS:
            self.assertEqual(board.versions(row), model.versions(row))
            holders = [number for number in model.who("open") if row in workers[number]["values"]]
            self.assertEqual(board.holder(row), holders[0] if holders else None)
            self.assertLessEqual(len(holders), 1)
        for number, one in enumerate(workers):
            self.assertEqual((board.level(number), board.steps(number), board.state(number)),
                             (one["level"], tuple(one["steps"]), model.state(one)))
        for state in STATES:
            self.assertEqual(board.workers(state), tuple(model.who(state)))
        self.assertEqual(board.told(), tuple(number for number, one in enumerate(workers) if one["told"]))
        self.assertEqual(board.log(), model.log())
        jobs, mix = model.jobs(committed), model.mix(committed)
        self.assertEqual((board.jobs(), board.mix()), (jobs, mix))
        needed = board.needed()
        low = tuple(number for place, number in enumerate(committed)
                    if oracle.LEVELS.index(workers[number]["level"]) < oracle.LEVELS.index(needed[place]))
        self.assertEqual(board.too_low(), low)
        self.assertEqual(board.safe_so_far(), splits.safe(jobs))
        self.check_guarantees(board, jobs, mix)

    def check_guarantees(self, board, jobs, mix):
        self.assertTrue(oracle.is_let(jobs, mix))
        edges = oracle.edges(jobs, mix)
        straight = not has_ring({edge[:2] for edge in edges}, len(jobs))
        self.assertIs(board.straight_so_far(), straight)
        self.assertTrue(straight or not board.safe_so_far())
        self.assertEqual(set(board.told()) & set(board.workers("gone")), set())
        self.assertEqual(board.too_low() == (), board.safe_so_far())

    def test_a_sweep_changes_nothing_else(self):
        for seed in range(100, 130):
            deeds = [deed for deed in drawn_deeds(seed, 30) if deed != ("sweep",)]
            chance, swept, left = random.Random(seed), Board(ROWS), Board(ROWS)
            for deed in deeds:
                told = []
                for board in (swept, left):
                    try:
                        told.append((True, do(board, deed)))
                    except (LookupError, ValueError) as error:
                        told.append((False, type(error), vars(error)))
                if chance.random() < 0.5:
                    swept.sweep()
                self.assertEqual(told[0], told[1])
                self.assertEqual(answers(swept, False), answers(left, False))

    def test_told_is_never_gone(self):
        for seed in range(130, 160):
            board, told = Board(ROWS), set()
            for deed in drawn_deeds(seed, 40):
                try:
                    do(board, deed)
                except (LookupError, ValueError):
                    continue
                self.assertLessEqual(told, set(board.told()))
                told = set(board.told())
                self.assertEqual(told & set(board.workers("gone")), set())

    def test_log_and_falls(self):
        seen = 0
        for seed in range(160, 220):
            board, page = done_on(drawn_deeds(seed, 30)), tuple(row for row, _ in ROWS)
            deeds = board.log()
            self.assertIs(log.is_deeds((page,), deeds), True)
            self.assertIsNone(log.breach((page,), deeds))
            waiting = len(board.workers("committed")) - len(board.told())
            for records, images in log.log_disks((page,), deeds, len(deeds)):
                made = log.records_of(deeds)[:records]
                ended = [record[1] for record in made if record[0] == "end"]
                many = len([name for name in ended if "abcdefgh".index(name) not in board.told()])
                self.assertLessEqual(many, waiting)
                self.assertIs(log.is_right((page,), deeds, len(deeds), (records, images)), True)
                self.check_disk(board, deeds, page, (records, images), many)
                seen += many > 0
        self.assertGreater(seen, 20)

    def check_disk(self, board, deeds, page, disk, many):
        """What is read on the DISK is just what a fall leaves that lets so many stay."""
        fallen, start = board.twin(), board.twin()
        fallen.fall(many)
        for cell, mark in log.read_on((page,), deeds, disk):
            last = fallen.versions(cell)[-1][0]
            if mark == -1:
                # Nobody of this log has written it: it is as the log began with it.
                self.assertNotIn(last, ["abcdefgh".index(deed[1]) for deed in deeds if deed[0] == "end"])
            else:
                self.assertEqual("abcdefgh"[last], log.records_of(deeds)[mark][1])
        self.assertEqual(start, board)


def has_ring(pairs, many):
    left = set(range(many))
    while True:
        free = {one for one in left if not any((other, one) in pairs for other in left)}
        if not free:
            return bool(left)
        left -= free


class Objects(Case):
    def test_len_eq_and_iteration(self):
        board = Board(ROWS)
        self.assertEqual((len(board), board == Board(ROWS), board != Board(ROWS)), (0, True, False))
        self.assertEqual(board, Board([list(pair) for pair in ROWS]))
        for other in (Board(ROWS[:2]), Board((("x", 6),) + ROWS[1:]), None, ROWS, 0, [], "board", len(board), Model(ROWS)):
            self.assertIs(board == other, False)
            self.assertIs(board != other, True)
        for call in (lambda: iter(board), lambda: list(board), lambda: [one for one in board], lambda: 1 in board, lambda: sorted(board)):
            self.assertRaises(TypeError, call)

    def test_the_same_deeds_in_the_same_order(self):
        one, other = Board(ROWS), Board(ROWS)
        for board in (one, other):
            board.enter("plain")
            board.enter("plain")
        one.read(0, "x"), one.read(1, "x")
        other.read(1, "x"), other.read(0, "x")
        self.assertEqual(answers(one), answers(other))
        self.assertNotEqual(one, other)
        again = Board(ROWS)
        again.enter("plain"), again.enter(level="plain")
        for deed in (("read", 5, "x"), ("read", 0, "q"), ("fall", 1), ("commit", 7), ("write", -1, "x", 0)):
            self.assertRaises(LookupError, do, again, deed)
        again.read(worker=0, row="x"), again.read(row="x", worker=1)
        self.assertEqual(again, one)
        again.sweep()
        self.assertNotEqual(again, one)
        one.flush()
        self.assertNotEqual(again, one)

    def test_twins_share_nothing(self):
        for seed in range(300, 320):
            deeds = drawn_deeds(seed, 30)
            board = done_on(deeds[:len(deeds) // 2])
            twin, told = board.twin(), answers(board)
            self.assertEqual((twin, answers(twin), len(twin)), (board, told, len(board)))
            for deed in deeds[len(deeds) // 2:]:
                try:
                    do(twin, deed)
                except (LookupError, ValueError):
                    continue
            self.assertEqual(answers(board), told)
            self.assertEqual(twin, done_on(deeds))
            self.assertEqual(answers(twin), answers(done_on(deeds)))

    def test_what_is_handed_in(self):
        rows = [["x", 5], ["y", 0]]
        board = Board(rows=rows)
        rows[0][1] = 9
        rows.append(["z", 1])
        self.assertEqual(board.rows(), (("x", 5), ("y", 0)))
        self.assertEqual(board.versions(row="x"), ((None, 5),))

    def test_no_list_comes_back(self):
        board = done_on(drawn_deeds(7, 30))
        self.assertNotIn("list", repr([samples_kind(value) for value in answers(board)]))
        for name, arguments in interface.methods():
            self.assertTrue(callable(getattr(board, name)))

    def test_same_answers_each_time(self):
        board = done_on(drawn_deeds(8, 30))
        self.assertEqual(answers(board), answers(board))


def samples_kind(value):
    """The shape of what a Board tells; the lists that answers puts around are opened."""
    if isinstance(value, list):
        return tuple(samples_kind(part) for part in value)
    return repr(value) if not isinstance(value, tuple) else tuple(samples_kind(part) for part in value)


class Refusals(Case):
    def board(self, *levels):
        board = Board(ROWS)
        for level in levels:
            board.enter(level)
        return board

    def test_numbers_of_workers(self):
        for levels in ((), ("shot",), ("plain", "watched")):
            board = self.board(*levels)
            for call in (lambda number: (board.read, number, "q"), lambda number: (board.write, number, "q", 1),
                         lambda number: (board.commit, number), lambda number: (board.drop, number), lambda number: (board.level, number),
                         lambda number: (board.steps, number), lambda number: (board.state, number)):
                for number in (-1, len(levels), len(levels) + 1, 10 ** 9, -10 ** 9):
                    self.refuses(NoNumber(number), *call(number))
            self.assertEqual(len(board), len(levels))

    def test_who_is_not_open(self):
        board = self.board("plain", "shot")
        board.commit(0)
        board.drop(1)
        for number in (0, 1):
            self.refuses(Unfit(), board.read, number, "q")
            self.refuses(Unfit(), board.write, number, "q", 1)
            self.refuses(Unfit(), board.commit, number)
            self.refuses(Unfit(), board.drop, number)
        self.assertEqual((board.state(0), board.state(1), len(board)), ("committed", "gone", 4))

    def test_rows(self):
        board = self.board("plain")
        for row in ("q", "", "X", "xx", "x "):
            self.refuses(NoRow(row), board.read, 0, row)
            self.refuses(NoRow(row), board.write, 0, row, 1)
            self.refuses(NoRow(row), board.versions, row)
            self.refuses(NoRow(row), board.holder, row)

    def test_steps_that_make_no_job(self):
        board = self.board("plain", "plain")
        board.read(0, "x"), board.write(0, "x", 1), board.write(0, "y", 2)
        self.refuses(Unfit(), board.read, 0, "x")
        self.refuses(Unfit(), board.read, 0, "y")
        self.refuses(Unfit(), board.write, 0, "x", 3)
        board.read(1, "x")
        self.refuses(Unfit(), board.read, 1, "x")
        self.assertEqual(board.steps(0), (("read", "x"), ("write", "x"), ("write", "y")))

    def test_unfit_ahead_of_held_ahead_of_late(self):
        board = self.board("shot", "plain", "plain", "plain", "shot")
        board.read(0, "y")
        board.write(1, "x", 1), board.commit(1), board.write(2, "x", 2), board.commit(2), board.write(3, "x", 3)
        self.refuses(Held(3), board.write, 0, "x", 4)
        board.drop(3)
        # The first who committed since it began.
        self.refuses(Late(1), board.write, 0, "x", 4)
        board.write(0, "z", 4)
        self.refuses(Unfit(), board.write, 0, "z", 4)
        self.refuses(Held(0), board.write, 4, "z", 4)
        # Who has not begun is late for nothing.
        board.write(4, "x", 5)
        self.assertEqual((board.holder("x"), board.holder("z"), board.holder("y")), (4, 0, None))

    def test_late_by_the_order_of_commits(self):
        board = self.board("watched", "plain", "plain")
        board.read(0, "y"), board.write(2, "x", 1), board.commit(2), board.write(1, "x", 1), board.commit(1)
        self.refuses(Late(2), board.write, 0, "x", 4)

    def test_pinched(self):
        board = self.board("watched", "watched")
        board.read(0, "x"), board.read(1, "y"), board.write(0, "y", 1), board.write(1, "x", 1), board.commit(0)
        self.refuses(Pinched(), board.commit, 1)
        self.refuses(Pinched(), board.commit, 1)
        self.assertEqual((board.state(1), board.holder("x"), len(board), board.mix()), ("open", 1, 7, (0, 0, 0)))
        board.drop(1)
        self.assertEqual((board.holder("x"), board.steps(1), board.rows()[0]), (None, (("read", "y"), ("write", "x")), ("x", 5)))

    def test_falls(self):
        board = self.board("plain", "plain", "plain", "shot")
        for number in (2, 0, 1):
            board.write(number, "x", number), board.commit(number)
        board.read(3, "y")
        for many in (-1, 4, 10 ** 9, -10 ** 9):
            self.refuses(NoNumber(many), board.fall, many)
        one, none, both, every = board.twin(), board.twin(), board.twin(), board.twin()
        one.fall(1), none.fall(0), both.fall(2), every.fall(3)
        self.assertEqual((one.told(), one.workers("gone"), one.versions("x")), ((2,), (0, 1, 3), ((None, 5), (2, 2))))
        self.assertEqual((none.told(), none.workers("gone"), none.versions("x")), ((), (0, 1, 2, 3), ((None, 5),)))
        self.assertEqual((both.told(), both.workers("gone"), both.rows()[0]), ((0, 2), (1, 3), ("x", 0)))
        self.assertEqual((every.told(), every.workers("gone"), every.mix()), ((0, 1, 2), (3,), (2, 2, 0, 0, 1, 1)))
        self.assertEqual([len(one.log()), one.jobs(), one.mix()], [0, (("plain", (("write", "x"),)),), (0, 0)])
        # All of those that stay are told: the next fall has nobody to take.
        self.refuses(NoNumber(1), every.fall, 1)
        every.fall(0)
        self.assertEqual(every.told(), (0, 1, 2))

    def test_a_commit_first(self):
        board = self.board("watched", "plain")
        board.commit(0)
        self.assertEqual((board.mix(), board.jobs(), board.log()), ((0,), (("watched", ()),), (("end", "a"), ("log", 1))))
        self.assertEqual((board.state(0), board.told(), board.straight_so_far(), board.needed()), ("committed", (), True, ("plain",)))

    def test_entering_is_no_begin(self):
        board = self.board("shot", "plain", "shot")
        board.read(2, "y")
        board.write(1, "x", 1), board.commit(1)
        self.assertEqual((board.read(0, "x"), board.read(2, "x")), (1, 5))

    def test_sweeps_while_somebody_is_open(self):
        board = self.board("shot", "plain", "plain", "plain", "watched")
        board.read(0, "y")
        for number in (1, 2, 3):
            board.write(number, "x", number), board.commit(number)
        self.assertEqual(board.sweep(), 0)
        board.flush()
        # 0, which has begun, would see the first one; 4 has not begun.
        self.assertEqual((board.sweep(), board.versions("x")), (2, ((None, 5), (3, 3))))
        self.assertEqual((board.sweep(), board.read(0, "x"), board.read(4, "x")), (0, 5, 3))
        board.commit(0)
        self.assertEqual((board.sweep(), board.versions("x"), board.versions("y")), (1, ((3, 3),), ((None, 0),)))

    def test_a_plain_one_keeps_no_version(self):
        board = self.board("plain", "plain")
        board.read(0, "y"), board.write(1, "x", 1), board.commit(1), board.flush()
        self.assertEqual((board.sweep(), board.read(0, "x")), (1, 1))

    def test_untold_versions_stay(self):
        board = self.board("plain", "plain")
        board.write(0, "x", 1), board.commit(0), board.flush(), board.write(1, "x", 2), board.commit(1)
        self.assertEqual((board.sweep(), board.versions("x")), (1, ((0, 1), (1, 2))))
        board.fall(0)
        self.assertEqual((board.versions("x"), board.sweep(), board.rows()[0]), (((0, 1),), 0, ("x", 1)))

    def test_lists_are_not_needed(self):
        board = Board(samples.listed_deep(ROWS))
        self.assertEqual(board, Board(ROWS))


if __name__ == "__main__":
    unittest.main()
