"""When JOBS are smooth: whoever has begun can come through, FOR ALL kept BEGINNINGS; JAMS, and who is bare."""

from nosplit.facts import rows_of_kind, writes_row
from nosplit.values import are_numbers_below, are_pairs_of_numbers, are_unlike, ascending, is_number_below, tupled
from nosplit.waits import ending, is_kept


def _rows_held(jobs, pair):
    """The ROWS that the first number STEPS of the JOB at place write."""
    place, number = pair
    return rows_of_kind(jobs[place][1][:number], "write")


def _all_held(jobs, pairs):
    return [row for pair in pairs for row in _rows_held(jobs, pair)]


def _waits_among(jobs, pair, rows):
    """Whether the next STEP of this JOB writes one of these ROWS."""
    place, number = pair
    kind, row = jobs[place][1][number]
    # No ROW is written twice by one JOB: what it waits for is held by another one.
    return kind == "write" and row in rows


def _are_jammed(jobs, pairs):
    rows = _all_held(jobs, pairs)
    return are_unlike(rows) and all([_waits_among(jobs, pair, rows) for pair in pairs])


def is_jam(jobs, thing):
    jobs = tupled(jobs)
    if not are_pairs_of_numbers(thing) or len(thing) < 2 or ascending(thing) != thing:
        return False
    places = tuple([place for place, number in thing])
    if not are_numbers_below(places, len(jobs)) or not are_unlike(places):
        return False
    if not all([is_number_below(number, len(jobs[place][1])) for place, number in thing]):
        return False
    return _are_jammed(jobs, thing)


def _stops(jobs, place):
    """The pairs (place, number) at which this JOB holds a ROW and writes one next."""
    steps = jobs[place][1]
    return [(place, number) for number in range(len(steps))
            if steps[number][0] == "write" and _rows_held(jobs, (place, number))]


def least_jam(jobs):
    jobs = tupled(jobs)
    # Whoever holds nothing is waited for by nobody: in a JAM with the fewest pairs all hold something.
    found = [()]
    for place in range(len(jobs)):
        longer = [pairs + (stop,) for pairs in found for stop in _stops(jobs, place)]
        found = found + [pairs for pairs in longer if are_unlike(_all_held(jobs, pairs))]
    jams = [pairs for pairs in found if len(pairs) > 1 and _are_jammed(jobs, pairs)]
    return min(jams, key=lambda jam: (len(jam), jam)) if jams else None


def _writes_ahead(job, gate, row):
    """Whether this JOB, which writes the ROW, writes the gate ahead of it."""
    steps = job[1]
    return ("write", gate) in steps[:steps.index(("write", row))]


def _who_can_pass(jobs, place):
    """Those who can write, and commit, what this JOB has to write behind its first STEP."""
    steps, found = jobs[place][1], []
    for row in rows_of_kind(steps[1:], "write"):
        for other in range(len(jobs)):
            if other != place and writes_row(jobs[other], row):
                if steps[0][0] == "read" or not _writes_ahead(jobs[other], steps[0][1], row):
                    found.append(other)
    return found


def bare_jobs(jobs):
    jobs = tupled(jobs)
    return tuple([place for place in range(len(jobs)) if _who_can_pass(jobs, place)])


def _raised_and_bare(jobs):
    return [place for place in bare_jobs(jobs) if jobs[place][0] != "plain"]


def is_smooth(jobs):
    jobs = tupled(jobs)
    return least_jam(jobs) is None and not _raised_and_bare(jobs)


def stumble(jobs):
    jobs = tupled(jobs)
    jam, bare = least_jam(jobs), _raised_and_bare(jobs)
    if jam is not None:
        return tuple([place for place, number in jam for _ in range(number)])
    if not bare:
        return None
    # Without a JAM who can pass does not write at all what the first STEP writes: nothing bars it till its commit.
    other = _who_can_pass(jobs, bare[0])[0]
    return (bare[0],) + (other,) * (len(jobs[other][1]) + 1)


def is_stumble(jobs, thing):
    return is_kept(jobs, thing) and ending(jobs, thing) is None


def smooth_levels(jobs):
    jobs = tupled(jobs)
    if least_jam(jobs) is not None:
        return None
    bare = bare_jobs(jobs)
    return tuple(["plain" if place in bare else "watched" for place in range(len(jobs))])
