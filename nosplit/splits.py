"""SPLITS: one JOB cut once, others whole in between, each handing a conflict on to the next one."""

from nosplit.checks import need_step
from nosplit.errors import Unfit
from nosplit.facts import any_clash, clash_links, jobs_clash, reads_from, rows_of_kind, writes_row
from nosplit.graphs import least_way, reached_from
from nosplit.jobs import part_of, without_job
from nosplit.values import are_numbers_below, ascending, is_number, is_number_below, numbers_in, tupled


def _is_read(jobs, head, place):
    return jobs[head][1][place][0] == "read"


def _need_read(jobs, head, place):
    need_step(jobs, head, place)
    if not _is_read(jobs, head, place):
        raise Unfit()


def _reads(jobs):
    """The pairs of a place and the number of a STEP of this JOB that is a read, ascending."""
    return [(head, place) for head in range(len(jobs)) for place in range(len(jobs[head][1]))
            if _is_read(jobs, head, place)]


def _others_let(jobs, head, place):
    """Those of whom 4 lets each stand among others."""
    level, steps = jobs[head]
    kept = rows_of_kind(steps[:place] if level == "plain" else steps, "write")
    return [other for other in range(len(jobs))
            if other != head and not any([writes_row(jobs[other], row) for row in kept])]


def _is_first(jobs, head, place, other):
    """Whether 1 lets the other one be first."""
    return writes_row(jobs[other], jobs[head][1][place][1])


def _is_last(jobs, head, place, other):
    """Whether 3 lets the other one be last."""
    level, steps = jobs[head]
    if reads_from(jobs[other], jobs[head]):
        return True
    return level == "plain" and any_clash(steps[place + 1:], jobs[other][1])


def _are_watched(jobs, head, other):
    return jobs[head][0] == "watched" and jobs[other][0] == "watched"


def _marks(jobs, head, other):
    return _are_watched(jobs, head, other) and reads_from(jobs[head], jobs[other])


def _answers(jobs, head, other):
    return _are_watched(jobs, head, other) and reads_from(jobs[other], jobs[head])


def _keeps_five(jobs, head, others):
    """Whether nobody among others answers behind, or as, one who marks."""
    marked = False
    for other in others:
        marked = marked or _marks(jobs, head, other)
        if marked and _answers(jobs, head, other):
            return False
    return True


def _is_others(jobs, head, thing):
    """Whether thing is a tuple of one or more JOBS other than head, no two alike."""
    if not are_numbers_below(thing, len(jobs)) or len(thing) == 0:
        return False
    return head not in thing and len(ascending(thing)) == len(thing)


def is_split(jobs, thing):
    jobs = tupled(jobs)
    if not isinstance(thing, tuple) or len(thing) != 3:
        return False
    head, place, others = thing
    if not is_number_below(head, len(jobs)) or not is_number_below(place, len(jobs[head][1])):
        return False
    if not _is_read(jobs, head, place) or not _is_others(jobs, head, others):
        return False
    if not _is_first(jobs, head, place, others[0]) or not _is_last(jobs, head, place, others[-1]):
        return False
    if not all([jobs_clash(jobs, others[at], others[at + 1]) for at in range(len(others) - 1)]):
        return False
    may_stand = _others_let(jobs, head, place)
    return all([other in may_stand for other in others]) and _keeps_five(jobs, head, others)


def _entries(jobs, head, able):
    """For each of the able, and each mark of the one in front, the pairs with which it comes behind; none or one."""
    found = {}
    for other in able:
        marks, answers = _marks(jobs, head, other), _answers(jobs, head, other)
        for mark in (0, 1):
            new = 1 if marks else mark
            found[(other, mark)] = [] if new == 1 and answers else [(other, new)]
    return found


def _ways(jobs, clash, head, place):
    """Pairs (job, mark) to walk along: those to start from, the links, those to end with."""
    able = _others_let(jobs, head, place)
    entries = _entries(jobs, head, able)
    starts = [pair for other in able if _is_first(jobs, head, place, other) for pair in entries[(other, 0)]]
    links = {}
    for job in able:
        for mark in (0, 1):
            links[(job, mark)] = [pair for other in clash[job] if other in able for pair in entries[(other, mark)]]
    lasts = [other for other in able if _is_last(jobs, head, place, other)]
    return starts, links, [(other, mark) for other in lasts for mark in (0, 1)]


def _shortest(jobs, clash, head, place):
    """The least of the SPLITS with head, place and the fewest others; None if there is none."""
    # Whoever comes twice in a walk over pairs can be cut short there: a shortest one has no two alike.
    starts, links, goals = _ways(jobs, clash, head, place)
    way = least_way(links, starts, goals)
    return None if way is None else (head, place, tuple([job for job, mark in way]))


def split_at(jobs, head, place):
    jobs = tupled(jobs)
    _need_read(jobs, head, place)
    return _shortest(jobs, clash_links(jobs), head, place)


def split_in(jobs):
    jobs = tupled(jobs)
    clash = clash_links(jobs)
    for head, place in _reads(jobs):
        split = _shortest(jobs, clash, head, place)
        if split is not None:
            return split
    return None


def safe(jobs):
    return split_in(jobs) is None


def _shortest_of_all(jobs):
    """Of each read the shortest SPLIT, where there is one."""
    jobs = tupled(jobs)
    clash = clash_links(jobs)
    found = [_shortest(jobs, clash, head, place) for head, place in _reads(jobs)]
    return [split for split in found if split is not None]


def split_heads(jobs):
    return ascending([head for head, place, others in _shortest_of_all(jobs)])


def fewest_others(jobs, head, place):
    split = split_at(jobs, head, place)
    return None if split is None else len(split[2])


def least_split(jobs):
    found = _shortest_of_all(jobs)
    return min(found, key=lambda split: (len(split[2]), split)) if found else None


def _splits_with(jobs, clash, head, place, many):
    """All SPLITS with head, place and at most so many others."""
    starts, links, goals = _ways(jobs, clash, head, place)
    found, ahead = [], [((pair[0],), pair) for pair in starts]
    while ahead:
        others, pair = ahead.pop()
        if pair in goals:
            found.append((head, place, others))
        if len(others) < many:
            for after in links[pair]:
                if after[0] not in others:
                    ahead.append((others + (after[0],), after))
    return found


def all_splits(jobs, many):
    jobs = tupled(jobs)
    clash, found = clash_links(jobs), []
    for head, place in _reads(jobs):
        found = found + _splits_with(jobs, clash, head, place, many)
    return sorted(found)


def let_between(jobs, head, place):
    jobs = tupled(jobs)
    _need_read(jobs, head, place)
    return tuple(_others_let(jobs, head, place))


def reached(jobs, head, place):
    jobs = tupled(jobs)
    _need_read(jobs, head, place)
    starts, links, goals = _ways(jobs, clash_links(jobs), head, place)
    return tuple(reached_from(links, starts))


def _is_set_of(thing, links):
    """Whether thing is a set of pairs (job, mark) among those that links tell of."""
    if not isinstance(thing, tuple):
        return False
    for pair in thing:
        # Kinds are looked at first: True is no mark, and a list in it could not be looked up.
        if not isinstance(pair, tuple) or not all([is_number(part) for part in pair]) or pair not in links:
            return False
    return ascending(thing) == thing


def is_why(jobs, head, place, thing):
    jobs = tupled(jobs)
    _need_read(jobs, head, place)
    starts, links, goals = _ways(jobs, clash_links(jobs), head, place)
    if not _is_set_of(thing, links):
        return False
    pairs = {pair: True for pair in thing}
    if any([goal in pairs for goal in goals]) or not all([pair in pairs for pair in starts]):
        return False
    return all([after in pairs for pair in thing for after in links[pair]])


def split_mix(jobs, split):
    jobs, split = tupled(jobs), tupled(split)
    if not is_split(jobs, split):
        raise Unfit()
    head, place, others = split
    outside = [job for job in range(len(jobs)) if job != head and job not in others]
    mix = tuple([job for job in outside for _ in range(len(jobs[job][1]) + 1)]) + (head,) * (place + 1)
    mix = mix + tuple([job for job in others for _ in range(len(jobs[job][1]) + 1)])
    return mix + (head,) * (len(jobs[head][1]) - place)


def split_ring(jobs, split):
    jobs, split = tupled(jobs), tupled(split)
    if not is_split(jobs, split):
        raise Unfit()
    ring = (split[0],) + split[2]
    first = ring.index(min(ring))
    return ring[first:] + ring[:first]


def safe_lots(jobs):
    jobs = tupled(jobs)
    sets = [numbers_in(code, len(jobs)) for code in range(1 << len(jobs))]
    found = []
    # The greater ones first: what lies within a safe one is safe, and is not asked for.
    for some in sorted(sets, key=lambda one: -len(one)):
        if not any([all([place in other for place in some]) for other in found]) and safe(part_of(jobs, some)):
            found.append(some)
    return sorted(found)


def spoilers(jobs):
    jobs = tupled(jobs)
    return tuple([place for place in range(len(jobs)) if safe(without_job(jobs, place))])
