"""JOBS: what they read and write, which of them clash, and JOBS made out of others."""

from nosplit.checks import need_number, need_order, need_place, need_places, need_row, need_step
from nosplit.errors import Twice, Unfit
from nosplit.facts import KINDS, clash_links, is_level, is_row, jobs_clash, reads_row, row_name
from nosplit.facts import rows_of_kind, steps_clash, writes_row
from nosplit.graphs import least_way, lots_in
from nosplit.values import ascending, tupled


def is_step(thing):
    if not isinstance(thing, tuple) or len(thing) != 2:
        return False
    return thing[0] in KINDS and is_row(thing[1])


def _fit_together(steps):
    """Whether no ROW is read twice, written twice, or read behind its own write."""
    read, written = {}, {}
    for kind, row in steps:
        if row in written or (kind == "read" and row in read):
            return False
        if kind == "read":
            read[row] = True
        else:
            written[row] = True
    return True


def is_job(thing):
    if not isinstance(thing, tuple) or len(thing) != 2:
        return False
    level, steps = thing
    if not is_level(level) or not isinstance(steps, tuple):
        return False
    return all([is_step(step) for step in steps]) and _fit_together(steps)


def is_jobs(thing):
    return isinstance(thing, tuple) and all([is_job(job) for job in thing])


def rows_of(jobs):
    return ascending([row for job in tupled(jobs) for kind, row in job[1]])


def reads_of(job):
    return ascending(rows_of_kind(tupled(job)[1], "read"))


def writes_of(job):
    return ascending(rows_of_kind(tupled(job)[1], "write"))


def who_reads(jobs, row):
    jobs = tupled(jobs)
    need_row(jobs, row)
    return tuple([place for place in range(len(jobs)) if reads_row(jobs[place], row)])


def who_writes(jobs, row):
    jobs = tupled(jobs)
    need_row(jobs, row)
    return tuple([place for place in range(len(jobs)) if writes_row(jobs[place], row)])


def step_at(jobs, place, step):
    jobs = tupled(jobs)
    need_step(jobs, place, step)
    return jobs[place][1][step]


def levels_of(jobs):
    return tuple([level for level, steps in tupled(jobs)])


def _with_job_at(jobs, place, job):
    return jobs[:place] + (job,) + jobs[place + 1:]


def _with_steps_at(jobs, place, steps):
    return _with_job_at(jobs, place, (jobs[place][0], steps))


def with_level(jobs, place, level):
    jobs = tupled(jobs)
    need_place(jobs, place)
    return _with_job_at(jobs, place, (level, jobs[place][1]))


def with_levels(jobs, levels):
    jobs = tupled(jobs)
    if len(levels) != len(jobs):
        raise Unfit()
    return tuple([(levels[place], jobs[place][1]) for place in range(len(jobs))])


def do_clash(jobs, one, other):
    jobs = tupled(jobs)
    need_places(jobs, (one, other))
    return jobs_clash(jobs, one, other)


def clashes(jobs):
    links = clash_links(tupled(jobs))
    return tuple([(one, other) for one in links for other in links[one] if one < other])


def clashing_steps(jobs, one, other):
    jobs = tupled(jobs)
    need_places(jobs, (one, other))
    if one == other:
        return ()
    some, others = jobs[one][1], jobs[other][1]
    pairs = [(first, second) for first in range(len(some)) for second in range(len(others))]
    return tuple([pair for pair in pairs if steps_clash(some[pair[0]], others[pair[1]])])


def lots(jobs):
    return lots_in(clash_links(tupled(jobs)))


def way_between(jobs, one, other):
    jobs = tupled(jobs)
    need_places(jobs, (one, other))
    return least_way(clash_links(jobs), [one], [other])


def _is_idle(jobs, place, step):
    for other in range(len(jobs)):
        if other != place and any([steps_clash(step, clashing) for clashing in jobs[other][1]]):
            return False
    return True


def idle_steps(jobs):
    jobs = tupled(jobs)
    pairs = [(place, step) for place in range(len(jobs)) for step in range(len(jobs[place][1]))]
    return tuple([(place, step) for place, step in pairs if _is_idle(jobs, place, jobs[place][1][step])])


def lean(jobs):
    jobs = tupled(jobs)
    thinned = []
    for place in range(len(jobs)):
        level, steps = jobs[place]
        thinned.append((level, tuple([step for step in steps if not _is_idle(jobs, place, step)])))
    return tuple(thinned)


def with_job(jobs, job):
    return tupled(jobs) + (tupled(job),)


def without_job(jobs, place):
    jobs = tupled(jobs)
    need_place(jobs, place)
    return jobs[:place] + jobs[place + 1:]


def part_of(jobs, some):
    jobs, some = tupled(jobs), tupled(some)
    need_places(jobs, some)
    return tuple([jobs[place] for place in some])


def turned(jobs, order):
    jobs, order = tupled(jobs), tupled(order)
    need_order(jobs, order)
    return tuple([jobs[place] for place in order])


def with_step(jobs, place, number, new):
    jobs, new = tupled(jobs), tupled(new)
    need_place(jobs, place)
    steps = jobs[place][1]
    need_number(number, len(steps) + 1)
    longer = steps[:number] + (new,) + steps[number:]
    if not _fit_together(longer):
        raise Unfit()
    return _with_steps_at(jobs, place, longer)


def without_step(jobs, place, step):
    jobs = tupled(jobs)
    need_step(jobs, place, step)
    steps = jobs[place][1]
    return _with_steps_at(jobs, place, steps[:step] + steps[step + 1:])


def _with_names(jobs, names):
    """The JOBS with the ROW that names tells for each of theirs."""
    return tuple([(level, tuple([(kind, names[row]) for kind, row in steps])) for level, steps in jobs])


def renamed(jobs, row, new):
    jobs = tupled(jobs)
    need_row(jobs, row)
    names = {name: name for name in rows_of(jobs)}
    if new != row and new in names:
        raise Twice(new)
    names[row] = new
    return _with_names(jobs, names)


def lettered(jobs):
    jobs = tupled(jobs)
    names = {}
    for level, steps in jobs:
        for kind, row in steps:
            if row not in names:
                names[row] = row_name(len(names))
    return _with_names(jobs, names)
