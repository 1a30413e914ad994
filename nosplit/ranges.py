"""RANGE JOBS: a range of numbers is read at one move, each number being a ROW."""

from nosplit.demands import cuts_in, demands_of, is_cut, meet, shortest_others
from nosplit.facts import clash_links, is_level, row_name, rows_of_kind
from nosplit.mixes import is_mix
from nosplit.orders import is_straight
from nosplit.runs import cut_moves, whole_moves
from nosplit.store import is_let, outcome
from nosplit.values import are_unlike, ascending, is_number, is_tuple_of, tupled


def _is_range_step(thing):
    if not isinstance(thing, tuple) or not all([is_number(part) for part in thing[1:]]):
        return False
    if len(thing) == 3:
        return thing[0] == "range" and thing[1] <= thing[2]
    return len(thing) == 2 and thing[0] == "write"


def _are_apart(ranges):
    """Whether no number stands in two of these ranges (low, high), which are ascending."""
    return all([ranges[at][1] < ranges[at + 1][0] for at in range(len(ranges) - 1)])


def _range_with(ranges, number):
    """The one of these ranges (low, high, ..), ascending and apart, that has the number; None if none has."""
    low, high = 0, len(ranges)
    while low < high:
        middle = (low + high) // 2
        if ranges[middle][1] < number:
            low = middle + 1
        else:
            high = middle
    return ranges[low] if low < len(ranges) and ranges[low][0] <= number else None


def _fit_together(steps):
    """Whether no number stands in two ranges, is written twice, or stands in a range behind its own write."""
    ranges = sorted([(steps[at][1], steps[at][2], at) for at in range(len(steps)) if steps[at][0] == "range"])
    writes = [(steps[at][1], at) for at in range(len(steps)) if steps[at][0] == "write"]
    if not _are_apart(ranges) or not are_unlike([number for number, at in writes]):
        return False
    for number, at in writes:
        around = _range_with(ranges, number)
        if around is not None and around[2] > at:
            return False
    return True


def _is_range_job(thing):
    if not is_tuple_of(thing, 2) or not is_level(thing[0]) or not isinstance(thing[1], tuple):
        return False
    return all([_is_range_step(step) for step in thing[1]]) and _fit_together(thing[1])


def is_range_jobs(thing):
    return isinstance(thing, tuple) and all([_is_range_job(job) for job in thing])


def written(jobs):
    return ascending([step[1] for job in tupled(jobs) for step in job[1] if step[0] == "write"])


def _names(numbers):
    """The ROW for each of these numbers: a, b, c .. as they stand."""
    return {numbers[at]: row_name(at) for at in range(len(numbers))}


def _read_in(step, names):
    """The reads of the named numbers in a range, ascending."""
    return tuple([("read", names[number]) for number in names if step[1] <= number <= step[2]])


def _spelt(step, names):
    """The STEPS of JOBS that this step of a RANGE JOB stands for, number by number."""
    return _read_in(step, names) if step[0] == "range" else (("write", names[step[1]]),)


def _spelt_all(steps, names):
    return tuple([single for step in steps for single in _spelt(step, names)])


def as_jobs(jobs):
    jobs, names = tupled(jobs), _names(written(jobs))
    return tuple([(level, _spelt_all(steps, names)) for level, steps in jobs])


def _move_jobs(jobs, names):
    """What as_jobs tells, but with a read of a ROW that nobody writes for each range in which nobody writes."""
    # Such a range is a move, too: a JOB may begin with it.
    found = []
    for level, steps in jobs:
        longer = ()
        for step in steps:
            spelt = _spelt(step, names)
            longer = longer + (spelt if spelt else (("read", row_name(len(names) + len(longer))),))
        found.append((level, longer))
    return tuple(found)


def _spread(jobs, names, mix):
    """The MIX of _move_jobs that has, for each move of this one, all moves that it stands for, side by side."""
    found, counts = (), [0] * len(jobs)
    for place in mix:
        steps, at = jobs[place][1], counts[place]
        many = 1 if at == len(steps) else max(1, len(_spelt(steps[at], names)))
        found = found + (place,) * many
        counts[place] = at + 1
    return found


def _run_as(jobs, mix):
    """The JOBS and the MIX that stand for RANGE JOBS and a MIX of them."""
    names = _names(written(jobs))
    return _move_jobs(jobs, names), _spread(jobs, names, mix)


def is_range_mix(jobs, thing):
    return is_mix(jobs, thing)


def is_let_by_ranges(jobs, mix):
    spelt, moves = _run_as(tupled(jobs), tupled(mix))
    return is_let(spelt, moves)


def is_straight_by_ranges(jobs, mix):
    spelt, moves = _run_as(tupled(jobs), tupled(mix))
    return is_straight(spelt, moves)


def range_outcome(jobs, mix):
    jobs, numbers = tupled(jobs), written(jobs)
    names, (spelt, moves) = _names(numbers), _run_as(jobs, tupled(mix))
    seen, rows = outcome(spelt, moves)
    named, places, told = {names[number]: True for number in numbers}, {row: line for row, line in rows}, []
    for place in range(len(jobs)):
        read = rows_of_kind(spelt[place][1], "read")
        told.append(tuple([seen[place][at] for at in range(len(read)) if read[at] in named]))
    return tuple(told), tuple([(number, places[names[number]]) for number in numbers])


def _demands_at(jobs, head, place):
    """What this head, cut behind this range, asks of others."""
    names, steps = _names(written(jobs)), jobs[head][1]
    return demands_of(as_jobs(jobs), head, _spelt_all(steps[:place], names), _spelt(steps[place], names),
                      _spelt_all(steps[place + 1:], names))


def range_split(jobs):
    jobs = tupled(jobs)
    clash = clash_links(as_jobs(jobs))
    for head, place in cuts_in(jobs, "range"):
        others = shortest_others(_demands_at(jobs, head, place), clash)
        if others is not None:
            return head, place, others
    return None


def is_range_split(jobs, thing):
    jobs = tupled(jobs)
    if not is_cut(jobs, thing, "range"):
        return False
    return meet(_demands_at(jobs, thing[0], thing[1]), clash_links(as_jobs(jobs)), thing[2])


def are_safe_ranges(jobs):
    return range_split(jobs) is None


def read_by(steps, numbers):
    """Those of these numbers that the steps of a RANGE JOB read."""
    return [number for number in numbers
            if any([step[0] == "range" and step[1] <= number <= step[2] for step in steps])]


def written_by(steps, numbers):
    return [number for number in numbers if ("write", number) in steps]


def touched_by(steps, numbers):
    return read_by(steps, numbers) + written_by(steps, numbers)


def split_numbers(jobs, split):
    jobs, (head, place, others) = tupled(jobs), tupled(split)
    numbers, steps = written(jobs), [steps for level, steps in jobs]
    first, last = steps[others[0]], steps[others[-1]]
    sets = [read_by([steps[head][place]], written_by(first, numbers))]
    for at in range(len(others) - 1):
        one, other = steps[others[at]], steps[others[at + 1]]
        sets.append(touched_by(one, written_by(other, numbers)) + touched_by(other, written_by(one, numbers)))
    sets.append(read_by(last, written_by(steps[head], numbers)))
    return tuple([ascending(found) for found in sets])


def bad_range_mix(jobs):
    jobs = tupled(jobs)
    split = range_split(jobs)
    if split is None:
        return None
    outside = [place for place in range(len(jobs)) if place != split[0] and place not in split[2]]
    return whole_moves(jobs, outside) + cut_moves(jobs, split)


def is_bad_range_mix(jobs, thing):
    if not is_range_mix(jobs, thing):
        return False
    return is_let_by_ranges(jobs, thing) and not is_straight_by_ranges(jobs, thing)
