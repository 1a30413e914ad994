"""Sessions and rounds: JOBS some of which come only behind others, and what is safe then."""

from nosplit.checks import need_places
from nosplit.demands import cuts_in, demands_at, entries, is_cut, meet
from nosplit.errors import Unfit
from nosplit.facts import clash_links, least_giving
from nosplit.graphs import any_ring, links_of, reached_from
from nosplit.jobs import part_of, with_levels
from nosplit.lines import all_lines, least_line, needed_ahead
from nosplit.orders import edges
from nosplit.runs import cut_moves, run_of
from nosplit.splits import safe
from nosplit.store import is_let
from nosplit.values import all_sets, are_numbers_below, are_pairs_of_numbers, are_unlike, ascending, is_turn, tupled


def _places_in(tuples):
    """All places in tuples of places, as they stand."""
    return [place for some in tuples for place in some]


def _links(jobs, ahead):
    return links_of(list(range(len(jobs))), ahead)


def is_ahead(jobs, thing):
    if not are_pairs_of_numbers(thing) or not are_numbers_below(tuple(_places_in(thing)), len(jobs)):
        return False
    return ascending(thing) == thing and any_ring(_links(jobs, thing)) is None


def _need_no_ring(jobs, ahead):
    """Refuse an ahead with a ring; a pair of one and the same is one, too."""
    if any_ring(_links(jobs, ahead)) is not None:
        raise Unfit()


def _need_ahead(jobs, ahead):
    need_places(jobs, _places_in(ahead))
    _need_no_ring(jobs, ahead)


def _chained(groups):
    """The set of the pairs of one of a group and one of the next group."""
    return ascending([(one, other) for at in range(len(groups) - 1) for one in groups[at] for other in groups[at + 1]])


def ahead_of_sessions(jobs, sessions):
    sessions = tupled(sessions)
    need_places(jobs, _places_in(sessions))
    if not are_unlike(_places_in(sessions)):
        raise Unfit()
    return ascending([pair for session in sessions for pair in _chained([(place,) for place in session])])


def ahead_of_rounds(jobs, rounds):
    rounds = tupled(rounds)
    need_places(jobs, _places_in(rounds))
    if not is_turn(tuple(_places_in(rounds)), len(jobs)) or () in rounds:
        raise Unfit()
    return _chained(rounds)


def _leading(jobs, ahead):
    """For each place the list of those that it leads."""
    links = _links(jobs, ahead)
    return {place: reached_from(links, links[place]) for place in links}


def leads(jobs, ahead, one, other):
    jobs, ahead = tupled(jobs), tupled(ahead)
    need_places(jobs, _places_in(ahead) + [one, other])
    _need_no_ring(jobs, ahead)
    return other in _leading(jobs, ahead)[one]


def is_short_mix(jobs, thing):
    jobs = tupled(jobs)
    if not are_numbers_below(thing, len(jobs)):
        return False
    return all([thing.count(place) == len(jobs[place][1]) + 1 for place in ascending(thing)])


def _need_short_mix(jobs, mix):
    if not is_short_mix(jobs, mix):
        raise Unfit()


def who_come(jobs, mix):
    jobs, mix = tupled(jobs), tupled(mix)
    need_places(jobs, mix)
    _need_short_mix(jobs, mix)
    return ascending(mix)


def _alone(jobs, mix):
    come = ascending(mix)
    return part_of(jobs, come), tuple([come.index(place) for place in mix])


def come_alone(jobs, mix):
    jobs, mix = tupled(jobs), tupled(mix)
    need_places(jobs, mix)
    _need_short_mix(jobs, mix)
    return _alone(jobs, mix)


def _need_both(jobs, ahead, mix):
    need_places(jobs, _places_in(ahead) + list(mix))
    _need_no_ring(jobs, ahead)
    _need_short_mix(jobs, mix)


def _leading_pairs(jobs, ahead, some):
    """The pairs (one, other) of some JOBS of whom one leads the other."""
    leading = _leading(jobs, ahead)
    return [(one, other) for one in some for other in leading[one] if other in some]


def keeps_ahead(jobs, ahead, mix):
    jobs, ahead, mix = tupled(jobs), tupled(ahead), tupled(mix)
    _need_both(jobs, ahead, mix)
    run = run_of(jobs, mix)
    return all([run.ended[one] < run.begun[other] for one, other in _leading_pairs(jobs, ahead, ascending(mix))])


def is_let_short(jobs, mix):
    jobs, mix = tupled(jobs), tupled(mix)
    need_places(jobs, mix)
    _need_short_mix(jobs, mix)
    part, moves = _alone(jobs, mix)
    return is_let(part, moves)


def _needed(jobs, ahead, mix):
    """For each JOB that comes those that have to stand ahead of it in a row that shows the MIX to be straight."""
    come, (part, moves) = ascending(mix), _alone(jobs, mix)
    pairs = [(come[edge[0]], come[edge[1]]) for edge in edges(part, moves)]
    return needed_ahead(come, pairs + _leading_pairs(jobs, ahead, come))


def rows_by(jobs, ahead, mix):
    jobs, ahead, mix = tupled(jobs), tupled(ahead), tupled(mix)
    _need_both(jobs, ahead, mix)
    return all_lines(_needed(jobs, ahead, mix))


def is_straight_by(jobs, ahead, mix):
    jobs, ahead, mix = tupled(jobs), tupled(ahead), tupled(mix)
    _need_both(jobs, ahead, mix)
    return least_line(_needed(jobs, ahead, mix)) is not None


def _follows(jobs, leading):
    """For each JOB those that may be the next of others: they clash with it, or it leads them."""
    clash = clash_links(jobs)
    return {one: ascending(clash[one] + leading[one]) for one in clash}


def _leads_any(leading, one, others):
    return any([other in leading[one] for other in others])


def _is_split_by(jobs, leading, thing):
    if not is_cut(jobs, thing, "read"):
        return False
    head, place, others = thing
    if not meet(demands_at(jobs, head, place), _follows(jobs, leading), others):
        return False
    if any([head in leading[other] or other in leading[head] for other in others]):
        return False
    return not any([_leads_any(leading, others[at], others[:at]) for at in range(len(others))])


def is_split_by(jobs, ahead, thing):
    jobs, ahead = tupled(jobs), tupled(ahead)
    _need_ahead(jobs, ahead)
    return _is_split_by(jobs, _leading(jobs, ahead), thing)


def _longer(leading, asks, able, others, mark):
    """Pairs of one more of the able behind these others, and its mark."""
    free = [other for other in able if other not in others and not _leads_any(leading, other, others)]
    return entries(asks, free, mark)


def _others_by(jobs, leading, head, place):
    """The fewest others of a SPLIT by ahead with this head and read; None if there is none."""
    # Who leads whom is asked of all others at once, so a way is told by all who stand in it, and by the last one.
    asks, follows = demands_at(jobs, head, place), _follows(jobs, leading)
    able = [other for other in asks.able if other not in leading[head] and head not in leading[other]]
    layer = [((other,), mark) for other, mark in entries(asks, asks.firsts, 0) if other in able]
    while layer:
        found, behind = [others for others, mark in layer if others[-1] in asks.lasts], {}
        if found:
            return found[0]
        for others, mark in layer:
            next_ones = [other for other in follows[others[-1]] if other in able]
            for other, new in _longer(leading, asks, next_ones, others, mark):
                behind.setdefault((ascending(others), other, new), (others + (other,), new))
        layer = [behind[key] for key in behind]
    return None


def _split_by(jobs, ahead):
    leading = _leading(jobs, ahead)
    found = [(head, place, _others_by(jobs, leading, head, place)) for head, place in cuts_in(jobs, "read")]
    splits = [split for split in found if split[2] is not None]
    return min(splits, key=lambda split: len(split[2])) if splits else None


def split_by(jobs, ahead):
    jobs, ahead = tupled(jobs), tupled(ahead)
    _need_ahead(jobs, ahead)
    return _split_by(jobs, ahead)


def _is_safe(jobs, ahead):
    leading = _leading(jobs, ahead)
    for head, place in cuts_in(jobs, "read"):
        if _others_by(jobs, leading, head, place) is not None:
            return False
    return True


def is_safe_by(jobs, ahead):
    jobs, ahead = tupled(jobs), tupled(ahead)
    _need_ahead(jobs, ahead)
    return _is_safe(jobs, ahead)


def short_mix_of(jobs, ahead, split):
    jobs, ahead, split = tupled(jobs), tupled(ahead), tupled(split)
    _need_ahead(jobs, ahead)
    if not _is_split_by(jobs, _leading(jobs, ahead), split):
        raise Unfit()
    return cut_moves(jobs, split)


def least_by(jobs, ahead):
    jobs, ahead = tupled(jobs), tupled(ahead)
    _need_ahead(jobs, ahead)
    return least_giving(len(jobs), lambda levels: _is_safe(with_levels(jobs, levels), ahead))


def _apart(jobs, ahead):
    """The pairs (one, other) of unlike places, neither of which leads the other one, ascending."""
    leading, places = _leading(jobs, ahead), list(range(len(jobs)))
    return [(one, other) for one in places for other in places
            if one != other and other not in leading[one] and one not in leading[other]]


def _with_pair(ahead, pair):
    return ascending(ahead + (pair,))


def healing_pairs(jobs, ahead):
    jobs, ahead = tupled(jobs), tupled(ahead)
    _need_ahead(jobs, ahead)
    if _is_safe(jobs, ahead):
        return ()
    return tuple([pair for pair in _apart(jobs, ahead) if _is_safe(jobs, _with_pair(ahead, pair))])


def spoiling_pairs(jobs, ahead):
    jobs, ahead = tupled(jobs), tupled(ahead)
    _need_ahead(jobs, ahead)
    if not _is_safe(jobs, ahead):
        return ()
    return tuple([pair for pair in _apart(jobs, ahead) if not _is_safe(jobs, _with_pair(ahead, pair))])


def _fewest(rest, rounds, known):
    """Of how many of these rounds, none with a place in common, the rest can be made up; known keeps what is told."""
    if not rest:
        return 0
    if rest not in known:
        known[rest] = 1 + min([_fewest(_less(rest, some), rounds, known) for some in _rounds_of(rest, rounds)])
    return known[rest]


def _less(rest, some):
    return tuple([place for place in rest if place not in some])


def _rounds_of(rest, rounds):
    """Those of these rounds that are of the rest alone."""
    return [some for some in rounds if all([place in rest for place in some])]


def _safe_rounds(jobs):
    """All sets of JOBS, but (), that are safe by themselves: by ROUNDS of these, and no others, JOBS are safe."""
    sets = all_sets(list(range(len(jobs))))
    return [some for some in sets if some and safe(part_of(jobs, some))]


def fewest_rounds(jobs):
    jobs = tupled(jobs)
    return _fewest(tuple(range(len(jobs))), _safe_rounds(jobs), {})


def rounds_for(jobs):
    jobs = tupled(jobs)
    rounds, rest, known, found = _safe_rounds(jobs), tuple(range(len(jobs))), {}, ()
    while rest:
        many = _fewest(rest, rounds, known)
        able = [some for some in _rounds_of(rest, rounds) if _fewest(_less(rest, some), rounds, known) < many]
        found = found + (min(able),)
        rest = _less(rest, found[-1])
    return found
