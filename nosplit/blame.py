"""Who and what is to blame for a MIX that is let and not straight: levels, JOBS to undo, a SPLIT that it shows."""

from nosplit.checks import need_places
from nosplit.demands import Demands, cuts_in, demands_at, meet, shortest_others
from nosplit.facts import LEVELS, all_givings, are_at_least, is_lesser
from nosplit.jobs import levels_of, with_level, with_levels
from nosplit.lines import least_line, needed_ahead
from nosplit.mixes import order_of
from nosplit.orders import edges, is_straight
from nosplit.splits import is_split
from nosplit.store import first_barred, is_let
from nosplit.values import ascending, greatest_sets, tupled


def _does_hurt(jobs, mix):
    return is_let(jobs, mix) and not is_straight(jobs, mix)


def hurts(jobs, mix, levels):
    return _does_hurt(with_levels(jobs, levels), mix)


def barred_with(jobs, mix, levels):
    found = first_barred(with_levels(jobs, levels), mix)
    return None if found is None else found[0]


def hurting_levels(jobs, mix):
    return [levels for levels in all_givings(len(jobs)) if hurts(jobs, mix, levels)]


def _lets(jobs, mix, levels):
    return is_let(with_levels(jobs, levels), mix)


def letting_levels(jobs, mix):
    found = [levels for levels in all_givings(len(jobs)) if _lets(jobs, mix, levels)]
    return [levels for levels in found
            if not any([other != levels and are_at_least(other, levels) for other in found])]


def _raises(jobs):
    """The ascending list of the GIVINGS that are at least the levels that the JOBS have."""
    own = levels_of(jobs)
    return [levels for levels in all_givings(len(own)) if are_at_least(levels, own)]


def _least_of(found):
    """Those of these GIVINGS that are not at least another one of them."""
    return [levels for levels in found
            if not any([other != levels and are_at_least(levels, other) for other in found])]


def refusing_raises(jobs, mix):
    return _least_of([levels for levels in _raises(jobs) if not _lets(jobs, mix, levels)])


def clearing_raises(jobs, mix):
    return _least_of([levels for levels in _raises(jobs) if not hurts(jobs, mix, levels)])


def single_raises(jobs, mix):
    jobs = tupled(jobs)
    if not _does_hurt(jobs, mix):
        return ()
    higher = [(place, level) for place in range(len(jobs)) for level in LEVELS if is_lesser(jobs[place][0], level)]
    return tuple([(place, level) for place, level in higher if not _does_hurt(with_level(jobs, place, level), mix)])


def _edge_pairs(jobs, mix):
    """The pairs (one, other) of JOBS with an EDGE of the MIX from the one to the other."""
    return [(edge[0], edge[1]) for edge in edges(jobs, mix)]


def _are_straight(pairs, some):
    """Whether no RING of these EDGES is of some JOBS alone."""
    # The others undone, some have among them just the EDGES that they had.
    return least_line(needed_ahead(some, pairs)) is not None


def _left(jobs, undone):
    return [place for place in range(len(jobs)) if place not in undone]


def undo_sets(jobs, mix):
    pairs = _edge_pairs(jobs, mix)
    found = greatest_sets(len(jobs), lambda some: _are_straight(pairs, some))
    return sorted([tuple(_left(jobs, some)) for some in found])


def _straight_without(jobs, pairs, undone):
    return _are_straight(pairs, _left(jobs, undone))


def lone_undos(jobs, mix):
    pairs = _edge_pairs(jobs, mix)
    if _straight_without(jobs, pairs, ()):
        return ()
    return tuple([place for place in range(len(jobs)) if _straight_without(jobs, pairs, (place,))])


def cheapest_undone(jobs, mix, prices):
    # No price is below 0: a set in which another one lies that is enough costs no less, and is of more JOBS.
    return min(undo_sets(jobs, mix), key=lambda some: (sum([prices[place] for place in some]), len(some), some))


def is_enough_undone(jobs, mix, some):
    need_places(jobs, some)
    return _straight_without(jobs, _edge_pairs(jobs, mix), some)


def refused_in_turn(jobs, mix):
    pairs, kept, undone = _edge_pairs(jobs, mix), [], []
    for place in order_of(jobs, mix):
        if _are_straight(pairs, kept + [place]):
            kept.append(place)
        else:
            undone.append(place)
    return tuple(sorted(undone))


def _missed_at(jobs, found, head, place):
    """Those whose version of the ROW that this head reads there comes behind the one that it sees."""
    row = jobs[head][1][place][1]
    return [edge[1] for edge in found if edge[0] == head and edge[2:] == (row, "missed")]


def _demands_shown(jobs, found, head, place):
    """What a SPLIT with this head and read asks of others that these EDGES of a MIX show."""
    asks, missed = demands_at(jobs, head, place), _missed_at(jobs, found, head, place)
    back = [edge[0] for edge in found if edge[1] == head]
    return Demands(asks.able,
                   [other for other in asks.firsts if other in missed],
                   {other: True for other in asks.lasts if other in back},
                   asks.marks, asks.answers)


def _follows(jobs, found):
    """For each JOB the ascending list of those to which these EDGES lead from it."""
    return {one: ascending([edge[1] for edge in found if edge[0] == one]) for one in range(len(jobs))}


def split_shown(jobs, mix):
    jobs = tupled(jobs)
    found = edges(jobs, mix)
    follows = _follows(jobs, found)
    for head, place in cuts_in(jobs, "read"):
        others = shortest_others(_demands_shown(jobs, found, head, place), follows)
        if others is not None:
            return head, place, others
    return None


def is_split_shown(jobs, mix, thing):
    jobs = tupled(jobs)
    if not is_split(jobs, thing):
        return False
    found = edges(jobs, mix)
    head, place, others = thing
    return meet(_demands_shown(jobs, found, head, place), _follows(jobs, found), others)
