"""[15]: nosplit/waits.py, and its guarantees over all kept BEGINNINGS."""

import unittest
from itertools import permutations, product

import oracle
from nosplit import waits
from nosplit.errors import Barred, NoNumber
from support import Case, Lists, random_jobs, small_jobs

nw = Lists(waits)

JOBS = (("plain", (("write", "a"), ("write", "b"))), ("plain", (("write", "b"), ("write", "a"))),
        ("shot", (("read", "c"), ("write", "a"))))
TWINS = (("shot", (("read", "x"), ("write", "y"))),) * 2
GATE = (("shot", (("write", "g"), ("write", "a"))), ("plain", (("write", "g"), ("read", "a"), ("write", "a"))))


def some_jobs():
    found = [jobs for jobs in small_jobs() if len(jobs) <= 3][::3] + [JOBS, TWINS, GATE, JOBS[:2], (TWINS[0], JOBS[0])]
    found += [jobs for jobs in random_jobs(91, 40, "ab", 3, 3) if sum(len(steps) for _, steps in jobs) <= 6]
    found += [jobs for jobs in random_jobs(92, 30, "abc", 3, 2)] + random_jobs(93, 20, "ab", 2, 4)
    return found + [tuple((level, tuple(("write", row) for _, row in dict.fromkeys((0, row) for _, row in steps)))
                          for level, steps in jobs) for jobs in random_jobs(94, 20, "abc", 3, 2)]


class Store:
    """Rule (w), written out; what is known of a BEGINNING, and all its goings-on, is kept."""

    def __init__(self, jobs):
        self.jobs = jobs
        self.known = {}

    def left(self, done):
        return [place for place in range(len(self.jobs)) if done.count(place) <= len(self.jobs[place][1])]

    def next_step(self, done, place):
        steps, count = self.jobs[place][1], done.count(place)
        return steps[count] if count < len(steps) else None

    def is_open(self, done, place):
        return 0 < done.count(place) <= len(self.jobs[place][1])

    def open(self, done):
        return [place for place in range(len(self.jobs)) if self.is_open(done, place)]

    def held(self, done, place):
        steps = self.jobs[place][1][:done.count(place)]
        return {row for kind, row in steps if kind == "write"} if self.is_open(done, place) else set()

    def to_write(self, done, place):
        return {row for kind, row in self.jobs[place][1][done.count(place):] if kind == "write"}

    def ended_since(self, done, place, row):
        """Whether a JOB that writes the ROW committed since this one, which has begun, did so."""
        for other, (_, steps) in enumerate(self.jobs):
            if ("write", row) in steps and done.count(other) == len(steps) + 1:
                if max(move for move, who in enumerate(done) if who == other) > done.index(place):
                    return True
        return False

    def is_barred(self, done, place):
        step = self.next_step(done, place)
        if step is None or step[0] == "read":
            return False
        if any(step[1] in self.held(done, other) for other in range(len(self.jobs)) if other != place):
            return True
        return self.jobs[place][0] != "plain" and place in done and self.ended_since(done, place, step[1])

    def beginnings(self):
        """All kept BEGINNINGS, ascending."""
        found, ahead = [], [()]
        while ahead:
            done = ahead.pop()
            found.append(done)
            ahead += [done + (place,) for place in self.left(done) if not self.is_barred(done, place)]
        return sorted(found)

    def through(self, done):
        """The set of those who are through behind some going-on; all of them, and True, if some going-on is a MIX."""
        if done not in self.known:
            can, whole = {place for place in range(len(self.jobs)) if place not in self.left(done)}, not self.left(done)
            for place in self.left(done):
                if not self.is_barred(done, place):
                    more, wholly = self.through(done + (place,))
                    can, whole = can | more, whole or wholly
            self.known[done] = (can, whole)
        return self.known[done]

    def is_ending(self, done, order):
        for place in order:
            while place in self.left(done):
                if self.is_barred(done, place):
                    return False
                done = done + (place,)
        return True

    def endings(self, done):
        return [order for order in permutations(self.open(done)) if self.is_ending(done, order)]

    def must_end_ahead(self, done, one, other):
        mine, theirs = self.to_write(done, one), self.to_write(done, other)
        return bool(theirs & self.held(done, one)) or (
            self.jobs[one][0] != "plain" and bool(mine & (self.held(done, other) | theirs)))

    def ahead_pairs(self, done):
        return tuple((one, other) for one, other in sorted(permutations(self.open(done), 2)) if self.must_end_ahead(done, one, other))

    def late_pairs(self, done):
        return tuple((place, row) for place in self.open(done) for row in sorted(self.to_write(done, place))
                     if self.jobs[place][0] != "plain" and self.ended_since(done, place, row))

    def losses(self, done):
        pairs, found = self.ahead_pairs(done), [("late", place, row) for place, row in self.late_pairs(done)]
        for many in range(2, len(self.jobs) + 1):
            for ring in permutations(self.open(done), many):
                if ring[0] == min(ring) and all(pair in pairs for pair in zip(ring, ring[1:] + ring[:1])):
                    found.append(("ring", ring))
        return found


SOME = some_jobs()


class Waits(Case):
    def each(self, fewer=1):
        for at, jobs in enumerate(SOME):
            store = Store(jobs)
            every = store.beginnings()
            for done in every[at % 3::max(1, len(every) // (60 // fewer))]:
                with self.subTest(jobs=jobs, done=done):
                    yield jobs, store, done

    def test_where_all_stand(self):
        for jobs, store, done in self.each():
            self.assertEqual(nw.open_jobs(jobs, done), tuple(store.open(done)))
            able = [place for place in store.left(done) if not store.is_barred(done, place)]
            self.assertEqual(nw.may_move(jobs, done), tuple(able))
            for place in range(len(jobs)):
                self.assertEqual(nw.held_rows(jobs, done, place), tuple(sorted(store.held(done, place))))
                step = store.next_step(done, place)
                holders = [other for other in range(len(jobs)) if step is not None and step[0] == "write" and other != place
                           and step[1] in store.held(done, other)]
                self.assertEqual(nw.waits_for(jobs, done, place), holders[0] if holders else None)
            self.assertEqual(nw.ahead_pairs(jobs, done), store.ahead_pairs(done))
            self.assertEqual(nw.late_pairs(jobs, done), store.late_pairs(done))

    def test_endings_and_losses(self):
        for jobs, store, done in self.each():
            endings, losses = store.endings(done), store.losses(done)
            told, lost = nw.ending(jobs, done), nw.loss(jobs, done)
            self.assertEqual(nw.how_many_endings(jobs, done), len(endings))
            # Guarantees: some going-on is a MIX exactly if there is an ENDING, exactly if there is no LOSS.
            self.assertEqual(bool(endings), store.through(done)[1])
            self.assertEqual(bool(endings), not losses)
            pairs = store.ahead_pairs(done)
            orders = [order for order in permutations(store.open(done))
                      if all(order.index(one) < order.index(other) for one, other in pairs)]
            self.assertEqual(endings, orders if endings else [])
            self.assertTrue(told in endings if endings else told is None)
            self.assertTrue(lost in losses if losses else lost is None)
            self.assertEqual(nw.ending([list(job) for job in jobs], list(done)), told)
            self.assertEqual(nw.loss([list(job) for job in jobs], list(done)), lost)

    def test_all_things(self):
        for jobs, store, done in self.each(15):
            endings, losses, places = store.endings(done), store.losses(done), range(-1, len(jobs) + 1)
            for many in range(4):
                for thing in product(places, repeat=many):
                    self.assertIs(nw.is_ending(jobs, done, thing), thing in endings)
                    self.assertIs(nw.is_loss(jobs, done, ("ring", thing)), ("ring", thing) in losses)
            for place, row in product(places, "abcgxy"):
                self.assertIs(nw.is_loss(jobs, done, ("late", place, row)), ("late", place, row) in losses)

    def test_who_can_end(self):
        for jobs, store, done in self.each():
            self.assertEqual(nw.can_end(jobs, done), tuple(sorted(store.through(done)[0])))
            able = [place for place in store.left(done) if not store.is_barred(done, place)]
            safe = tuple(place for place in able if store.endings(done + (place,)))
            self.assertEqual(nw.safe_moves(jobs, done), safe)
            self.assertEqual(safe, tuple(place for place in able if store.through(done + (place,))[1]))

    def test_is_kept(self):
        for jobs in (JOBS[:2], TWINS, GATE, (("plain", ()), JOBS[0]), ()):
            every = Store(jobs).beginnings()
            for many in range(7):
                for thing in product(range(-1, len(jobs) + 1), repeat=many):
                    self.assertIs(nw.is_kept(jobs, thing), thing in every)
        for thing in (None, [0], (True,), (0, None), "0", ((0,),), (0, 0, 0, 0), 0):
            self.assertIs(nw.is_kept(JOBS, thing), False)

    def test_pinches_are_not_looked_at(self):
        look = (("read", "x"), ("read", "y"))
        skew = (("watched", look + (("write", "x"),)), ("watched", look + (("write", "y"),)))
        turn = (0, 1, 0, 1, 0, 1, 0, 1)
        self.assertIs(nw.is_kept(skew, turn), True)
        self.assertEqual((nw.may_move(skew, turn[:7]), nw.ending(skew, turn[:7]), nw.ending(skew, turn)), ((1,), (1,), ()))
        self.assertEqual((nw.can_end(skew, turn), nw.loss(skew, turn)), ((0, 1), None))

    def test_none_open(self):
        whole = oracle.whole(JOBS, (2, 0, 1))
        for done, can in (((), (0, 1, 2)), (whole, (0, 1, 2)), (whole[:6], (0, 1, 2))):
            self.assertEqual((nw.open_jobs(JOBS, done), nw.ahead_pairs(JOBS, done), nw.late_pairs(JOBS, done)), ((), (), ()))
            self.assertEqual((nw.ending(JOBS, done), nw.how_many_endings(JOBS, done), nw.loss(JOBS, done)), ((), 1, None))
            self.assertIs(nw.is_ending(JOBS, done, ()), True)
            self.assertEqual(nw.can_end(JOBS, done), can)
            self.assertEqual((nw.held_rows(JOBS, done, 0), nw.waits_for(JOBS, done, 0)), ((), None))
        self.assertEqual((nw.may_move(JOBS, whole), nw.safe_moves(JOBS, whole)), ((), ()))
        self.assertEqual((nw.open_jobs((), ()), nw.ending((), ()), nw.loss((), ()), nw.can_end((), ())), ((), (), None, ()))

    def test_who_has_not_begun_can_wait(self):
        # 2, raised, writes what 0 holds: it can begin behind 0's commit. Where 0 and 1 hold each other up, it can not.
        self.assertEqual(nw.can_end(JOBS, (0,)), (0, 1, 2))
        self.assertEqual(nw.can_end(JOBS, (0, 1)), ())
        self.assertEqual(nw.waits_for(JOBS, (0, 1, 2), 2), 0)

    def test_what_is_no_ending_and_no_loss(self):
        for thing in (None, [2, 1], (1, 2), (2,), (2, 1, 0), (2, True), (2, 2), "21", ((2,), 1)):
            self.assertIs(nw.is_ending(JOBS, (2, 1), thing), False)
        self.assertIs(nw.is_ending(JOBS, (2, 1), (2, 1)), True)
        late, ring = ("late", 2, "a"), ("ring", (0, 2))
        self.assertIs(nw.is_loss(JOBS, (2, 0, 0, 0), late), True)
        self.assertIs(nw.is_loss(JOBS, (2, 0), ring), True)
        for thing in (None, (), list(late), ("late", 2), ("late", True, "a"), ("late", 2, "b"), ("late", 2, None), ("late", (2,), "a"),
                      ("late", 2, "a", 0), ("late", 0, "a"), ("late", None, None), (2, "a"), ("ring", (0, 2)), "late"):
            self.assertIs(nw.is_loss(JOBS, (2, 0, 0, 0), thing), False)
        self.assertIs(nw.is_loss((JOBS[2], JOBS[0]), (0, 1, 1, 1), ("late", 0, "a")), True)
        self.assertIs(nw.is_loss((JOBS[2], JOBS[0]), (0, 1, 1, 1), ("late", False, "a")), False)
        for thing in (None, list(ring), ("ring", [0, 2]), ("ring", (2, 0)), ("ring", ()), ("ring", (0,)), ("ring", (0, 2, 0, 2)),
                      ("ring", (False, 2)), ("ring", (0, 2), 0), ("ring", None), ("late", (0, 2)), ("ring", (0, 1)), late, (0, 2)):
            self.assertIs(nw.is_loss(JOBS, (2, 0), thing), False)


class Refusals(Case):
    def test_numbers_ahead_of_barred(self):
        for function in (nw.held_rows, nw.waits_for):
            self.no_numbers(function, 3, lambda number: (JOBS, (0, 1), number))
            self.no_numbers(function, 3, lambda number: (JOBS, (0, 2, 2), number))
            self.refuses(Barred(2), function, JOBS, (0, 2, 2), 0)
            self.refuses(NoNumber(0), function, (), (), 0)

    def test_barred(self):
        for jobs, done, number in ((JOBS, (0, 2, 2), 2), (JOBS, (0, 1, 0, 1), 2), (JOBS, (2, 0, 0, 0, 2), 4),
                                   (TWINS, (0, 1, 0, 0, 1, 1), 4), (JOBS, (0, 2, 2, 0, 0, 1), 2)):
            for function in (nw.open_jobs, nw.may_move, nw.ahead_pairs, nw.late_pairs, nw.ending, nw.how_many_endings, nw.loss,
                             nw.can_end, nw.safe_moves):
                self.refuses(Barred(number), function, jobs, done)
            for thing in ((), None, [1], ("ring", (0, 1)), "x"):
                self.refuses(Barred(number), nw.is_ending, jobs, done, thing)
                self.refuses(Barred(number), nw.is_loss, jobs, done, thing)
            self.assertIs(nw.is_kept(jobs, done), False)

    def test_barred_for_all_beginnings(self):
        for jobs in (JOBS[:2], TWINS, GATE):
            store = Store(jobs)
            for mix in oracle.mixes(jobs):
                barred = [move for move, place in enumerate(mix) if store.is_barred(mix[:move], place)]
                if barred:
                    self.refuses(Barred(barred[0]), nw.open_jobs, jobs, mix)
                else:
                    self.assertEqual(nw.open_jobs(jobs, mix), ())


if __name__ == "__main__":
    unittest.main()
