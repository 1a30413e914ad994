"""The store: what is seen, held and barred in a MIX, and which MIXES are let."""

from nosplit.checks import need_move, need_number, need_row
from nosplit.errors import Barred, CanNot
from nosplit.facts import writes_row
from nosplit.jobs import rows_of
from nosplit.runs import barred_next, bars_along, holds, pinches_of, places_left, read_moves, rule_of
from nosplit.runs import run_of, version_seen, writers_ahead
from nosplit.values import are_numbers_below, tupled


def held_at(jobs, mix, move):
    jobs, mix = tupled(jobs), tupled(mix)
    need_move(mix, move)
    run = run_of(jobs, mix[:move])
    return tuple([(row, place) for row in rows_of(jobs) for place in range(len(jobs)) if holds(run, place, row)])


def versions_at(jobs, mix, row, move):
    jobs, mix = tupled(jobs), tupled(mix)
    need_move(mix, move)
    need_row(jobs, row)
    return (None,) + tuple(writers_ahead(run_of(jobs, mix), row, move))


def seen_at(jobs, mix, move):
    jobs, mix = tupled(jobs), tupled(mix)
    need_move(mix, move)
    run = run_of(jobs, mix)
    if move not in read_moves(run, mix[move]):
        raise CanNot()
    return version_seen(run, move)


def _seen(run):
    places = list(range(len(run.jobs)))
    return tuple([tuple([version_seen(run, move) for move in read_moves(run, place)]) for place in places])


def seen_by(jobs, mix):
    return _seen(run_of(tupled(jobs), tupled(mix)))


def outcome(jobs, mix):
    jobs, mix = tupled(jobs), tupled(mix)
    run, rows = run_of(jobs, mix), []
    for row in rows_of(jobs):
        if any([writes_row(job, row) for job in jobs]):
            rows.append((row, tuple(writers_ahead(run, row, len(mix)))))
    return _seen(run), tuple(rows)


def barred_moves(jobs, mix):
    jobs, mix = tupled(jobs), tupled(mix)
    run, bars = run_of(jobs, mix), bars_along(jobs, mix)
    return [(move, rule_of(run, move)) for move in range(len(mix)) if bars[move]]


def first_barred(jobs, mix):
    found = barred_moves(jobs, mix)
    return found[0] if found else None


def is_let(jobs, mix):
    return not barred_moves(jobs, mix)


def barred_by(jobs, mix, move):
    jobs, mix = tupled(jobs), tupled(mix)
    need_move(mix, move)
    return barred_next(run_of(jobs, mix[:move]), mix[move])


def pinches(jobs, mix):
    return pinches_of(run_of(tupled(jobs), tupled(mix)))


def is_pinch(jobs, mix, thing):
    if not are_numbers_below(thing, len(jobs)):
        return False
    return thing in pinches(jobs, mix)


def is_beginning(jobs, thing):
    jobs = tupled(jobs)
    if not are_numbers_below(thing, len(jobs)):
        return False
    return all([thing.count(place) <= len(jobs[place][1]) + 1 for place in range(len(jobs))])


def _need_let(jobs, done):
    found = first_barred(jobs, done)
    if found is not None:
        raise Barred(found[0])


def _next_let(jobs, done):
    run = run_of(jobs, done)
    return [place for place in places_left(jobs, done) if not barred_next(run, place)]


def may_come(jobs, done):
    jobs, done = tupled(jobs), tupled(done)
    _need_let(jobs, done)
    return tuple(_next_let(jobs, done))


def _let_from(jobs, done, many):
    """The first so many MIXES, ascending, that begin with done, which is let, and are let; all, if many is None."""
    found, ahead = [], [done]
    while ahead and len(found) != many:
        begun = ahead.pop()
        if not places_left(jobs, begun):
            found.append(begun)
        for place in reversed(_next_let(jobs, begun)):
            ahead.append(begun + (place,))
    return found


def how_many_let(jobs, done):
    jobs, done = tupled(jobs), tupled(done)
    _need_let(jobs, done)
    return len(_let_from(jobs, done, None))


def first_let(jobs, done):
    jobs, done = tupled(jobs), tupled(done)
    _need_let(jobs, done)
    found = _let_from(jobs, done, 1)
    return found[0] if found else None


def all_let(jobs):
    return _let_from(tupled(jobs), (), None)


def nth_let(jobs, number):
    found = all_let(jobs)
    need_number(number, len(found))
    return found[number]
