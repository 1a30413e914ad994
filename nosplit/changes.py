"""JOBS changed so that they are safe: put in other ORDERS, with reads held, cut into PIECES."""

from nosplit.checks import need_place, need_step
from nosplit.errors import Unfit
from nosplit.facts import any_clash, clash_links, writes_row
from nosplit.graphs import is_way, least_way, links_within, lots_in, reached_from, ways_apart
from nosplit.jobs import is_job
from nosplit.lines import least_line, needed_ahead
from nosplit.mixes import is_mix
from nosplit.orders import edges
from nosplit.runs import cut_moves, run_of, whole_moves
from nosplit.splits import safe, split_at, split_in
from nosplit.store import is_let
from nosplit.values import all_orders, all_sets, are_numbers_below, are_pairs_of_numbers, are_unlike, ascending
from nosplit.values import count_turned, is_number_below, is_set_below, is_tuple_of, is_turn, tupled


def _put(job, order):
    """The JOB in this ORDER."""
    level, steps = job
    return level, tuple([steps[number] for number in order])


def _is_order(job, thing):
    return is_turn(thing, len(job[1])) and is_job(_put(job, thing))


def is_order(jobs, place, thing):
    jobs = tupled(jobs)
    need_place(jobs, place)
    return _is_order(jobs[place], thing)


def with_order(jobs, place, order):
    jobs = tupled(jobs)
    need_place(jobs, place)
    return jobs[:place] + (_put(jobs[place], order),) + jobs[place + 1:]


def _is_fine(jobs, place, order, known):
    """Whether no SPLIT has this JOB, in this ORDER, as its head; known keeps what is told already."""
    there = with_order(jobs, place, order)
    for at in range(len(order)):
        # Which STEPS stand ahead of a read is all that counts of the ORDER.
        key = (order[at], ascending(order[:at]))
        if there[place][1][at][0] == "read" and key not in known:
            known[key] = split_at(there, place, at) is None
        if not known.get(key, True):
            return False
    return True


def fine_orders(jobs, place):
    jobs = tupled(jobs)
    need_place(jobs, place)
    known, orders = {}, all_orders(list(range(len(jobs[place][1]))))
    return [order for order in orders if _is_order(jobs[place], order) and _is_fine(jobs, place, order, known)]


def best_order(jobs, place):
    found = fine_orders(jobs, place)
    return min(found, key=lambda order: (count_turned(order), order)) if found else None


def _can_be_held(jobs):
    """The pairs (place, number) of the reads that a HOLDING can have, ascending."""
    return [(place, number) for place in range(len(jobs)) for number in range(len(jobs[place][1]))
            if jobs[place][1][number][0] == "read" and not writes_row(jobs[place], jobs[place][1][number][1])]


def is_holding(jobs, thing):
    if not are_pairs_of_numbers(thing):
        return False
    able = _can_be_held(tupled(jobs))
    return all([pair in able for pair in thing]) and ascending(thing) == thing


def held(jobs, holding):
    jobs, holding = tupled(jobs), tupled(holding)
    found = []
    for place in range(len(jobs)):
        longer, (level, steps) = [], jobs[place]
        for number in range(len(steps)):
            longer.append(steps[number])
            if (place, number) in holding:
                longer.append(("write", steps[number][1]))
        found.append((level, tuple(longer)))
    return tuple(found)


def _are_within(some, others):
    return all([part in others for part in some])


def saving_holdings(jobs):
    jobs = tupled(jobs)
    found = []
    # Those of fewer pairs come first: what has a saving part needs no look.
    for some in all_sets(_can_be_held(jobs)):
        if not any([_are_within(part, some) for part in found]) and safe(held(jobs, some)):
            found.append(some)
    return sorted(found)


def cheapest_holding(jobs, prices):
    jobs = tupled(jobs)
    able = _can_be_held(jobs)
    if len(prices) != len(able):
        raise Unfit()
    costs = {able[at]: prices[at] for at in range(len(able))}
    fit = [(sum([costs[pair] for pair in some]), some) for some in all_sets(able) if safe(held(jobs, some))]
    return min(fit)[1] if fit else None


def is_cuts(jobs, thing):
    if not is_tuple_of(thing, len(jobs)):
        return False
    return all([is_set_below(thing[place], len(jobs[place][1])) and 0 not in thing[place]
                for place in range(len(jobs))])


def _stretches(job, cut):
    """The STEPS of the PIECES of this JOB, cut ahead of these."""
    steps, ends = job[1], cut + (len(job[1]),)
    return [steps[start:end] for start, end in zip((0,) + cut, ends)]


def _pieces(jobs, cuts):
    return tuple([(jobs[place][0], steps)
                  for place in range(len(jobs)) for steps in _stretches(jobs[place], cuts[place])])


def _owners(jobs, cuts):
    """For each PIECE the place of its JOB."""
    return [place for place in range(len(jobs)) for _ in range(len(cuts[place]) + 1)]


def pieces_of(jobs, cuts):
    return _pieces(tupled(jobs), tupled(cuts))


def _are_kept(jobs, cuts, mix):
    run, owners = run_of(_pieces(jobs, cuts), mix), _owners(jobs, cuts)
    return all([owners[piece] != owners[piece - 1] or run.ended[piece - 1] < run.begun[piece]
                for piece in range(1, len(owners))])


def keeps_cuts(jobs, cuts, mix):
    return _are_kept(tupled(jobs), tupled(cuts), tupled(mix))


def _is_whole_to_see(jobs, cuts, mix):
    # An OUTCOME is that of a whole MIX exactly if the EDGES, told for JOBS, keep some order of these.
    owners = _owners(jobs, cuts)
    pairs = [(owners[edge[0]], owners[edge[1]]) for edge in edges(_pieces(jobs, cuts), mix)]
    between = [pair for pair in pairs if pair[0] != pair[1]]
    return least_line(needed_ahead(list(range(len(jobs))), between)) is not None


def is_unbroken(jobs, cuts, mix):
    return _is_whole_to_see(tupled(jobs), tupled(cuts), tupled(mix))


def _all_but(jobs, some):
    """The places of the other JOBS."""
    return [place for place in range(len(jobs)) if place not in some]


def _links_beside(jobs, place):
    """The links between those other JOBS that clash."""
    return links_within(clash_links(jobs), _all_but(jobs, (place,)))


def _clashing(jobs, links, steps):
    """Those of the linked JOBS that clash with some of these STEPS."""
    return [other for other in links if any_clash(steps, jobs[other][1])]


def lots_beside(jobs, place):
    jobs = tupled(jobs)
    need_place(jobs, place)
    return lots_in(_links_beside(jobs, place))


def _sides(jobs, links, place, number):
    """Those of the linked JOBS that clash with a STEP ahead of this one, and those with it or one behind it."""
    steps = jobs[place][1]
    return _clashing(jobs, links, steps[:number]), _clashing(jobs, links, steps[number:])


def _is_clean_cut(jobs, links, place, number):
    """Whether one cut, ahead of this STEP, is clean beside the linked JOBS."""
    starts, goals = _sides(jobs, links, place, number)
    return not any([goal in reached_from(links, starts) for goal in goals])


def _clean_cut(jobs, place):
    """All numbers of STEPS of this JOB ahead of which a cut is clean."""
    links = _links_beside(jobs, place)
    return tuple([number for number in range(1, len(jobs[place][1])) if _is_clean_cut(jobs, links, place, number)])


def finest_cuts(jobs):
    # CUTS are clean exactly if each cut, by itself, is: a LOT on both sides of it clashes with two PIECES.
    jobs = tupled(jobs)
    return tuple([_clean_cut(jobs, place) for place in range(len(jobs))])


def are_clean(jobs, cuts):
    finest = finest_cuts(jobs)
    return all([_are_within(cuts[place], finest[place]) for place in range(len(finest))])


def are_right(jobs, cuts):
    return are_clean(jobs, cuts) and safe(jobs)


def _joining_at(jobs, cuts, place):
    """Some joining of two PIECES of this JOB; None if there is none."""
    links, stretches = _links_beside(jobs, place), _stretches(jobs[place], cuts[place])
    beside = [_clashing(jobs, links, steps) for steps in stretches]
    for later in range(len(stretches)):
        for piece in range(later):
            others = least_way(links, beside[piece], beside[later])
            if others is not None:
                return place, piece, later, others
    return None


def joining(jobs, cuts):
    jobs, cuts = tupled(jobs), tupled(cuts)
    for place in range(len(jobs)):
        found = _joining_at(jobs, cuts, place)
        if found is not None:
            return found
    return None


def is_joining(jobs, cuts, thing):
    jobs, cuts = tupled(jobs), tupled(cuts)
    if not is_tuple_of(thing, 4) or not is_number_below(thing[0], len(jobs)):
        return False
    place, piece, later, others = thing
    links, stretches = _links_beside(jobs, place), _stretches(jobs[place], cuts[place])
    if not is_number_below(later, len(stretches)) or not is_number_below(piece, later):
        return False
    starts, goals = _clashing(jobs, links, stretches[piece]), _clashing(jobs, links, stretches[later])
    return are_numbers_below(others, len(jobs)) and is_way(links, starts, goals, others)


def _pieces_among(owners, places):
    """The numbers of all PIECES of the JOBS at these places, JOB by JOB."""
    return [piece for place in places for piece in range(len(owners)) if owners[piece] == place]


def _mix_of_joining(jobs, cuts, found):
    """A MIX of PIECES in which others stand whole between two PIECES that they join."""
    place, piece, later, others = found
    owners, mine = _owners(jobs, cuts), _pieces_among(_owners(jobs, cuts), [place])
    outside = _all_but(jobs, (place,) + others)
    order = _pieces_among(owners, outside) + mine[:piece + 1] + _pieces_among(owners, others) + mine[piece + 1:]
    return whole_moves(_pieces(jobs, cuts), order)


def _mix_of_split(jobs, cuts, split):
    """A MIX of PIECES in which others stand whole between two STEPS of a PIECE of the head of a SPLIT of JOBS."""
    head, number, others = split
    pieces, owners, mine = _pieces(jobs, cuts), _owners(jobs, cuts), _pieces_among(_owners(jobs, cuts), [head])
    starts = [start for start in (0,) + cuts[head] if start <= number]
    piece = len(starts) - 1
    outside = _all_but(jobs, (head,) + others)
    between = cut_moves(pieces, (mine[piece], number - starts[-1], tuple(_pieces_among(owners, others))))
    ahead = whole_moves(pieces, _pieces_among(owners, outside) + mine[:piece])
    return ahead + between + whole_moves(pieces, mine[piece + 1:])


def breaking_mix(jobs, cuts):
    jobs, cuts = tupled(jobs), tupled(cuts)
    found = joining(jobs, cuts)
    if found is not None:
        return _mix_of_joining(jobs, cuts, found)
    # CUTS are clean here: the others of a SPLIT, of one LOT, clash with no PIECE of its head but the one between whose
    # STEPS they stand.
    split = split_in(jobs)
    return None if split is None else _mix_of_split(jobs, cuts, split)


def is_breaking_mix(jobs, cuts, thing):
    jobs, cuts = tupled(jobs), tupled(cuts)
    if not is_mix(_pieces(jobs, cuts), thing) or not _are_kept(jobs, cuts, thing):
        return False
    return not _is_whole_to_see(jobs, cuts, thing) and is_let(_pieces(jobs, cuts), thing)


def fewest_away(jobs, place, number):
    many = len(roads_past(jobs, place, number))
    jobs = tupled(jobs)
    links = _links_beside(jobs, place)
    # As many as the most ROADS: with fewer some ROAD stays, and so many are enough.
    sets = [some for some in all_sets(list(links)) if len(some) == many]
    return min([some for some in sets
                if _is_clean_cut(jobs, links_within(links, _all_but(jobs, (place,) + some)), place, number)])


def roads_past(jobs, place, number):
    jobs = tupled(jobs)
    need_step(jobs, place, number)
    links = _links_beside(jobs, place)
    starts, goals = _sides(jobs, links, place, number)
    return ascending(ways_apart(links, starts, goals))


def are_roads_past(jobs, place, number, thing):
    many = len(roads_past(jobs, place, number))
    jobs = tupled(jobs)
    links = _links_beside(jobs, place)
    starts, goals = _sides(jobs, links, place, number)
    if not is_tuple_of(thing, many) or not all([are_numbers_below(road, len(jobs)) for road in thing]):
        return False
    if not all([is_way(links, starts, goals, road) for road in thing]) or ascending(thing) != thing:
        return False
    return are_unlike([other for road in thing for other in road])
