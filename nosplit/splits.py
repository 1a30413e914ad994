"""SPLITS: one JOB cut once, others whole in between, each handing a conflict on to the next one."""

from nosplit.checks import need_step
from nosplit.demands import cuts_in, demands_at, is_cut, meet, shortest_others, ways_to_meet
from nosplit.errors import Unfit
from nosplit.facts import clash_links
from nosplit.graphs import reached_from
from nosplit.jobs import part_of, without_job
from nosplit.runs import cut_moves, whole_moves
from nosplit.values import ascending, greatest_sets, is_number, least_first, tupled


def _need_read(jobs, head, place):
    need_step(jobs, head, place)
    if jobs[head][1][place][0] != "read":
        raise Unfit()


def is_split(jobs, thing):
    jobs = tupled(jobs)
    return is_cut(jobs, thing, "read") and meet(demands_at(jobs, thing[0], thing[1]), clash_links(jobs), thing[2])


def _shortest(jobs, clash, head, place):
    """The least of the SPLITS with head, place and the fewest others; None if there is none."""
    others = shortest_others(demands_at(jobs, head, place), clash)
    return None if others is None else (head, place, others)


def split_at(jobs, head, place):
    jobs = tupled(jobs)
    _need_read(jobs, head, place)
    return _shortest(jobs, clash_links(jobs), head, place)


def split_in(jobs):
    jobs = tupled(jobs)
    clash = clash_links(jobs)
    for head, place in cuts_in(jobs, "read"):
        split = _shortest(jobs, clash, head, place)
        if split is not None:
            return split
    return None


def safe(jobs):
    return split_in(jobs) is None


def _shortest_of_all(jobs):
    """Of each read the shortest SPLIT, where there is one."""
    jobs = tupled(jobs)
    clash = clash_links(jobs)
    found = [_shortest(jobs, clash, head, place) for head, place in cuts_in(jobs, "read")]
    return [split for split in found if split is not None]


def split_heads(jobs):
    return ascending([head for head, place, others in _shortest_of_all(jobs)])


def fewest_others(jobs, head, place):
    split = split_at(jobs, head, place)
    return None if split is None else len(split[2])


def least_split(jobs):
    found = _shortest_of_all(jobs)
    return min(found, key=lambda split: (len(split[2]), split)) if found else None


def _splits_with(jobs, clash, head, place, many):
    """All SPLITS with head, place and at most so many others."""
    starts, links, goals = ways_to_meet(demands_at(jobs, head, place), clash)
    found, ahead = [], [((pair[0],), pair) for pair in starts]
    while ahead:
        others, pair = ahead.pop()
        if pair in goals:
            found.append((head, place, others))
        if len(others) < many:
            for after in links[pair]:
                if after[0] not in others:
                    ahead.append((others + (after[0],), after))
    return found


def all_splits(jobs, many):
    jobs = tupled(jobs)
    clash, found = clash_links(jobs), []
    for head, place in cuts_in(jobs, "read"):
        found = found + _splits_with(jobs, clash, head, place, many)
    return sorted(found)


def let_between(jobs, head, place):
    jobs = tupled(jobs)
    _need_read(jobs, head, place)
    return tuple(demands_at(jobs, head, place).able)


def reached(jobs, head, place):
    jobs = tupled(jobs)
    _need_read(jobs, head, place)
    starts, links, goals = ways_to_meet(demands_at(jobs, head, place), clash_links(jobs))
    return tuple(reached_from(links, starts))


def _is_set_of(thing, links):
    """Whether thing is a set of pairs (job, mark) among those that links tell of."""
    if not isinstance(thing, tuple):
        return False
    for pair in thing:
        # Kinds are looked at first: True is no mark, and a list in it could not be looked up.
        if not isinstance(pair, tuple) or not all([is_number(part) for part in pair]) or pair not in links:
            return False
    return ascending(thing) == thing


def is_why(jobs, head, place, thing):
    jobs = tupled(jobs)
    _need_read(jobs, head, place)
    starts, links, goals = ways_to_meet(demands_at(jobs, head, place), clash_links(jobs))
    if not _is_set_of(thing, links):
        return False
    pairs = {pair: True for pair in thing}
    if any([goal in pairs for goal in goals]) or not all([pair in pairs for pair in starts]):
        return False
    return all([after in pairs for pair in thing for after in links[pair]])


def split_mix(jobs, split):
    jobs, split = tupled(jobs), tupled(split)
    if not is_split(jobs, split):
        raise Unfit()
    head, place, others = split
    outside = [job for job in range(len(jobs)) if job != head and job not in others]
    return whole_moves(jobs, outside) + cut_moves(jobs, split)


def split_ring(jobs, split):
    jobs, split = tupled(jobs), tupled(split)
    if not is_split(jobs, split):
        raise Unfit()
    return least_first((split[0],) + split[2])


def safe_lots(jobs):
    jobs = tupled(jobs)
    return greatest_sets(len(jobs), lambda some: safe(part_of(jobs, some)))


def spoilers(jobs):
    jobs = tupled(jobs)
    return tuple([place for place in range(len(jobs)) if safe(without_job(jobs, place))])
