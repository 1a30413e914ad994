"""GIVINGS of levels, and which of them are enough; the levels that JOBS have themselves play no part."""

from nosplit.checks import need_place, need_places
from nosplit.facts import LEVELS, all_givings, is_lesser, is_level, least_level_at, rank_of
from nosplit.jobs import with_job, with_level, with_levels, without_job, without_step
from nosplit.splits import is_split, safe, split_in
from nosplit.values import tupled


def is_giving(jobs, thing):
    return isinstance(thing, tuple) and len(thing) == len(jobs) and all([is_level(level) for level in thing])


def is_enough(jobs, levels):
    return safe(with_levels(jobs, levels))


def _least_at(jobs, place):
    """The level of this JOB in the least GIVING that is enough."""
    return least_level_at(len(jobs), place, lambda levels: is_enough(jobs, levels))


def least_levels(jobs):
    jobs = tupled(jobs)
    return tuple([_least_at(jobs, place) for place in range(len(jobs))])


def least_level(jobs, place):
    jobs = tupled(jobs)
    need_place(jobs, place)
    return _least_at(jobs, place)


def all_enough(jobs):
    jobs = tupled(jobs)
    return [levels for levels in all_givings(len(jobs)) if is_enough(jobs, levels)]


def lesser_of(jobs, levels, other):
    levels, other = tupled(levels), tupled(other)
    return tuple([LEVELS[min(rank_of(levels[place]), rank_of(other[place]))] for place in range(len(jobs))])


def levels_with(jobs, job):
    return least_levels(with_job(jobs, job))


def raised_by(jobs, job):
    before, behind = least_levels(jobs), levels_with(jobs, job)
    return tuple([place for place in range(len(jobs)) if behind[place] != before[place]])


def _with_gap(levels, place):
    """The levels of JOBS without the one at place, as they stand with it: None at its own."""
    return levels[:place] + (None,) + levels[place:]


def lowered_without(jobs, place):
    jobs = tupled(jobs)
    need_place(jobs, place)
    levels, without = least_levels(jobs), _with_gap(least_levels(without_job(jobs, place)), place)
    others = [other for other in range(len(jobs)) if other != place]
    return tuple([other for other in others if is_lesser(without[other], levels[other])])


def costly_steps(jobs, place):
    jobs = tupled(jobs)
    level = least_level(jobs, place)
    steps = range(len(jobs[place][1]))
    return tuple([step for step in steps if is_lesser(_least_at(without_step(jobs, place, step), place), level)])


def who_costs(jobs, place):
    jobs = tupled(jobs)
    level = least_level(jobs, place)
    found = []
    for other in range(len(jobs)):
        at = place - 1 if other < place else place
        if other != place and is_lesser(_least_at(without_job(jobs, other), at), level):
            found.append(other)
    return tuple(found)


def cheapest(jobs, prices):
    prices, levels = tupled(prices), []
    least = least_levels(jobs)
    for place in range(len(least)):
        # What is enough is told place by place, so each JOB can have the cheapest level it may have.
        fit = LEVELS[rank_of(least[place]):]
        cost = min([prices[place][rank_of(level)] for level in fit])
        levels.append([level for level in fit if prices[place][rank_of(level)] == cost][0])
    return price_of(jobs, prices, levels), tuple(levels)


def price_of(jobs, prices, levels):
    return sum([prices[place][rank_of(levels[place])] for place in range(len(jobs))])


def _lowered(jobs, place):
    """The JOBS with the least GIVING, but for the next lesser level at place; None if there is no lesser one."""
    least = least_levels(jobs)
    if least[place] == "plain":
        return None
    return with_level(with_levels(jobs, least), place, LEVELS[rank_of(least[place]) - 1])


def split_below(jobs, place):
    jobs = tupled(jobs)
    need_place(jobs, place)
    lower = _lowered(jobs, place)
    return None if lower is None else split_in(lower)


def is_split_below(jobs, place, thing):
    jobs = tupled(jobs)
    need_place(jobs, place)
    lower = _lowered(jobs, place)
    return lower is not None and is_split(lower, thing)


def enough_within(jobs, some):
    jobs, some = tupled(jobs), tupled(some)
    need_places(jobs, some)
    return is_enough(jobs, ["watched" if place in some else "plain" for place in range(len(jobs))])


def fewest_watched(jobs):
    # A set is enough exactly if each JOB that needs more than "plain" is in it.
    least = least_levels(jobs)
    return tuple([place for place in range(len(least)) if least[place] != "plain"])
