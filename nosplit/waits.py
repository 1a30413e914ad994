"""Who waits for whom by rule (w) alone, and who can not come through."""

from nosplit.checks import need_place
from nosplit.errors import Barred
from nosplit.facts import rows_of_kind, writes_row
from nosplit.graphs import any_ring, links_of
from nosplit.jobs import rows_of
from nosplit.lines import all_nodes, count_lines, least_line, needed_ahead
from nosplit.runs import Run, barred_write, holds, next_step, places_left, run_of
from nosplit.store import is_beginning
from nosplit.values import are_numbers_below, are_unlike, ascending, is_tuple_of, least_first, tupled


def _first_barred(jobs, done):
    """The number of the first of these moves that is barred by (w); None if none is."""
    run = Run(jobs)
    for move in range(len(done)):
        if barred_write(run, done[move]):
            return move
        run.go(done[move])
    return None


def is_kept(jobs, thing):
    jobs = tupled(jobs)
    return is_beginning(jobs, thing) and _first_barred(jobs, thing) is None


def _kept_run(jobs, done):
    """How the JOBS stand behind done; refused if it is not kept."""
    found = _first_barred(jobs, done)
    if found is not None:
        raise Barred(found)
    return run_of(jobs, done)


def _is_open(run, place):
    return run.begun[place] is not None and run.ended[place] is None


def _opened(run):
    return [place for place in range(len(run.jobs)) if _is_open(run, place)]


def open_jobs(jobs, done):
    return tuple(_opened(_kept_run(tupled(jobs), tupled(done))))


def held_rows(jobs, done, place):
    jobs = tupled(jobs)
    need_place(jobs, place)
    run = _kept_run(jobs, tupled(done))
    return tuple([row for row in rows_of(jobs) if holds(run, place, row)])


def _holders(run, place, row):
    """Those other JOBS that hold the ROW: one, or none."""
    return [other for other in range(len(run.jobs)) if other != place and holds(run, other, row)]


def waits_for(jobs, done, place):
    jobs = tupled(jobs)
    need_place(jobs, place)
    run = _kept_run(jobs, tupled(done))
    step = next_step(run, place)
    if step is None or step[0] == "read":
        return None
    found = _holders(run, place, step[1])
    return found[0] if found else None


def may_move(jobs, done):
    jobs, done = tupled(jobs), tupled(done)
    run = _kept_run(jobs, done)
    return tuple([place for place in places_left(jobs, done) if not barred_write(run, place)])


def _to_write(run, place):
    """The ROWS that this JOB has to write, in the order of its STEPS."""
    return rows_of_kind(run.jobs[place][1][run.counts[place]:], "write")


def _is_raised(run, place):
    return run.jobs[place][0] != "plain"


def _ends_ahead(run, one, other):
    """Whether this open JOB must end ahead of the other open one."""
    mine, theirs = _to_write(run, one), _to_write(run, other)
    if any([holds(run, one, row) for row in theirs]):
        return True
    return _is_raised(run, one) and any([holds(run, other, row) or row in theirs for row in mine])


def _pairs_among(run, some):
    """The pairs (one, other) of some open JOBS of which one must end ahead of other."""
    return [(one, other) for one in some for other in some if one != other and _ends_ahead(run, one, other)]


def ahead_pairs(jobs, done):
    run = _kept_run(tupled(jobs), tupled(done))
    return tuple(_pairs_among(run, _opened(run)))


def _ended_since(run, place, row):
    """Whether a JOB that writes the ROW committed since this open one began."""
    return any([run.ended[other] is not None and run.ended[other] > run.begun[place]
                and writes_row(run.jobs[other], row) for other in range(len(run.jobs))])


def _late_rows(run, place):
    """The ROWS for which this open JOB is late."""
    if not _is_raised(run, place):
        return []
    return [row for row in _to_write(run, place) if _ended_since(run, place, row)]


def _late_among(run, some):
    return ascending([(place, row) for place in some for row in _late_rows(run, place)])


def late_pairs(jobs, done):
    run = _kept_run(tupled(jobs), tupled(done))
    return _late_among(run, _opened(run))


def _needed(run):
    """For each open JOB those that must end ahead of it."""
    some = _opened(run)
    return needed_ahead(some, _pairs_among(run, some))


def _ending(run):
    return None if _late_among(run, _opened(run)) else least_line(_needed(run))


def ending(jobs, done):
    return _ending(_kept_run(tupled(jobs), tupled(done)))


def is_ending(jobs, done, thing):
    jobs, done = tupled(jobs), tupled(done)
    some = _opened(_kept_run(jobs, done))
    if not are_numbers_below(thing, len(jobs)) or ascending(thing) != tuple(some) or not are_unlike(thing):
        return False
    rest = [place for place in thing for _ in range(len(jobs[place][1]) + 1 - done.count(place))]
    return _first_barred(jobs, done + tuple(rest)) is None


def how_many_endings(jobs, done):
    run = _kept_run(tupled(jobs), tupled(done))
    if _late_among(run, _opened(run)):
        return 0
    needed = _needed(run)
    return count_lines(needed, all_nodes(needed), {})


def loss(jobs, done):
    run = _kept_run(tupled(jobs), tupled(done))
    some = _opened(run)
    late = _late_among(run, some)
    if late:
        return ("late",) + late[0]
    ring = any_ring(links_of(some, _pairs_among(run, some)))
    return None if ring is None else ("ring", least_first(ring))


def _is_ring_among(run, some, thing):
    """Whether thing is a ring of open JOBS, the least one first, each of which must end ahead of the next one."""
    if not are_numbers_below(thing, len(run.jobs)) or len(thing) < 2 or not are_unlike(thing):
        return False
    if min(thing) != thing[0] or not all([place in some for place in thing]):
        return False
    behind = thing[1:] + thing[:1]
    return all([_ends_ahead(run, thing[at], behind[at]) for at in range(len(thing))])


def is_loss(jobs, done, thing):
    run = _kept_run(tupled(jobs), tupled(done))
    some = _opened(run)
    if is_tuple_of(thing, 3) and thing[0] == "late":
        return are_numbers_below(thing[1:2], len(run.jobs)) and thing[1:] in _late_among(run, some)
    return is_tuple_of(thing, 2) and thing[0] == "ring" and _is_ring_among(run, some, thing[1])


def _wanted(run, place):
    """The open JOBS that have to end so that this one can: it, if it is open, and those that hold what is wanted."""
    # Who is through wants nothing.
    found, ahead = [], [place]
    while ahead:
        one = ahead.pop()
        if one not in found:
            found.append(one)
            ahead = ahead + [other for row in _to_write(run, one) for other in _holders(run, one, row)]
    return [one for one in sorted(found) if _is_open(run, one)]


def _can_end(run, place):
    # The others need not move at all: they hold nothing that is wanted. Who has not begun can wait for those wanted.
    some = _wanted(run, place)
    return not _late_among(run, some) and any_ring(links_of(some, _pairs_among(run, some))) is None


def can_end(jobs, done):
    run = _kept_run(tupled(jobs), tupled(done))
    return tuple([place for place in range(len(run.jobs)) if _can_end(run, place)])


def safe_moves(jobs, done):
    jobs, done = tupled(jobs), tupled(done)
    able = may_move(jobs, done)
    return tuple([place for place in able if _ending(run_of(jobs, done + (place,))) is not None])
