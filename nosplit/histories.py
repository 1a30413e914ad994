"""TALES: OUTCOMES told ahead, the NEEDS they put on MIXES, and the MIXES that are of them."""

from nosplit.checks import need_number
from nosplit.errors import Barred, CanNot, Unfit
from nosplit.facts import LEVELS, all_givings, rank_of, rows_of_kind, writes_row
from nosplit.graphs import any_ring, links_of, reached_from
from nosplit.jobs import rows_of, with_levels
from nosplit.lines import all_nodes, count_lines, free_in, least_line, needed_ahead, nth_line
from nosplit.mixes import how_many, is_mix, is_swaps_between, swaps_between
from nosplit.runs import barred_next, run_of
from nosplit.store import first_barred, is_let, outcome
from nosplit.values import all_orders, are_pairs_of_numbers, are_tuples_of, are_unlike, ascending, is_number
from nosplit.values import is_number_below, is_tuple_of, tupled

MOST_MIXES = 4000


def _is_watched(jobs):
    return any([job[0] == "watched" for job in jobs])


def _need_few(jobs):
    """With a watched JOB MIXES are gone through: there may not be too many."""
    if _is_watched(jobs) and how_many(jobs) > MOST_MIXES:
        raise Unfit()


def _need_none_watched(jobs):
    if _is_watched(jobs):
        raise Unfit()


def _writers(jobs, row):
    return [place for place in range(len(jobs)) if writes_row(jobs[place], row)]


def _written_rows(jobs):
    return [row for row in rows_of(jobs) if _writers(jobs, row)]


def _are_seen(jobs, place, thing):
    """Whether thing is a tuple with, for each read of this JOB, None or another JOB that writes the ROW."""
    read = rows_of_kind(jobs[place][1], "read")
    if not is_tuple_of(thing, len(read)):
        return False
    for at in range(len(read)):
        told = thing[at]
        if told is not None and (not is_number_below(told, len(jobs)) or told == place):
            return False
        if told is not None and not writes_row(jobs[told], read[at]):
            return False
    return True


def _is_line(writers, thing):
    """Whether thing is a tuple of all of these JOBS, each once."""
    if not is_tuple_of(thing, len(writers)) or not all([is_number(part) for part in thing]):
        return False
    return sorted(thing) == writers


def is_tale(jobs, thing):
    jobs = tupled(jobs)
    if not is_tuple_of(thing, 2) or not is_tuple_of(thing[0], len(jobs)):
        return False
    if not all([_are_seen(jobs, place, thing[0][place]) for place in range(len(jobs))]):
        return False
    rows, told = _written_rows(jobs), thing[1]
    if not is_tuple_of(told, len(rows)) or not are_tuples_of(told, 2):
        return False
    return all([told[at][0] == rows[at] and _is_line(_writers(jobs, rows[at]), told[at][1]) for at in range(len(rows))])


def _spots(jobs):
    return [(place, step) for place in range(len(jobs)) for step in range(len(jobs[place][1]) + 1)]


def _commit(jobs, place):
    return place, len(jobs[place][1])


def _holds_to(jobs, place, step):
    return (place, step) if jobs[place][0] == "plain" else (place, 0)


def _write_needs(jobs, row, line):
    """The NEEDS between those who write this ROW, in the order of the TALE."""
    found = []
    for at in range(len(line) - 1):
        behind = line[at + 1]
        step = jobs[behind][1].index(("write", row))
        found.append((_commit(jobs, line[at]), _holds_to(jobs, behind, step)))
    return found


def _read_needs(jobs, spot, seen, line):
    """The NEEDS of the read at this SPOT; line tells those who write the ROW."""
    found, (place, step) = [], spot
    if seen is not None:
        found.append((_commit(jobs, seen), _holds_to(jobs, place, step)))
    count = 0 if seen is None else line.index(seen) + 1
    if count < len(line) and line[count] != place:
        found.append((_holds_to(jobs, place, step), _commit(jobs, line[count])))
    return found


def _needs(jobs, tale):
    seen, rows = tale
    lines = {row: places for row, places in rows}
    found = [((place, step), (place, step + 1)) for place, step in _spots(jobs) if step < len(jobs[place][1])]
    for row in lines:
        found = found + _write_needs(jobs, row, lines[row])
    for place in range(len(jobs)):
        steps = jobs[place][1]
        reads = [step for step in range(len(steps)) if steps[step][0] == "read"]
        for at in range(len(reads)):
            line = lines.get(steps[reads[at]][1], ())
            found = found + _read_needs(jobs, (place, reads[at]), seen[place][at], line)
    return ascending(found)


def needs(jobs, tale):
    return _needs(tupled(jobs), tupled(tale))


def _needed(jobs, tale):
    """For each SPOT those that have to stand ahead of it."""
    return needed_ahead(_spots(jobs), _needs(jobs, tale))


def _least_unbarred(jobs, needed):
    """The least line of SPOTS in which no move is barred; None if there is none."""
    ahead = [()]
    while ahead:
        line = ahead.pop()
        run = run_of(jobs, [place for place, step in line])
        rest = [spot for spot in all_nodes(needed) if spot not in line]
        if not rest:
            return line
        for spot in reversed(free_in(needed, rest)):
            if not barred_next(run, spot[0]):
                ahead.append(line + (spot,))
    return None


def _least_mix(jobs, tale):
    """The least MIX of this TALE; None if it does not come."""
    # A watched JOB sees, and is barred by (w), as a "shot" one: NEEDS tell all but what (p) bars.
    needed = _needed(jobs, tale)
    line = _least_unbarred(jobs, needed) if _is_watched(jobs) else least_line(needed)
    return None if line is None else tuple([place for place, step in line])


def comes(jobs, tale):
    return mix_of(jobs, tale) is not None


def mix_of(jobs, tale):
    jobs = tupled(jobs)
    _need_few(jobs)
    return _least_mix(jobs, tupled(tale))


def is_mix_of(jobs, tale, thing):
    jobs = tupled(jobs)
    _need_few(jobs)
    return is_mix(jobs, thing) and outcome(jobs, thing) == tupled(tale) and is_let(jobs, thing)


def tale_by(jobs, mix):
    jobs = tupled(jobs)
    _need_few(jobs)
    found = first_barred(jobs, mix)
    if found is not None:
        raise Barred(found[0])
    return outcome(jobs, mix)


def needs_ring(jobs, tale):
    jobs = tupled(jobs)
    _need_few(jobs)
    return any_ring(links_of(_spots(jobs), _needs(jobs, tupled(tale))))


def is_needs_ring(jobs, tale, thing):
    jobs = tupled(jobs)
    _need_few(jobs)
    if not are_pairs_of_numbers(thing) or len(thing) < 2 or not are_unlike(thing):
        return False
    pairs, behind = _needs(jobs, tupled(tale)), thing[1:] + thing[:1]
    return all([(thing[at], behind[at]) in pairs for at in range(len(thing))])


def how_many_of(jobs, tale):
    jobs = tupled(jobs)
    _need_none_watched(jobs)
    needed = _needed(jobs, tupled(tale))
    return count_lines(needed, all_nodes(needed), {})


def nth_of(jobs, tale, number):
    jobs = tupled(jobs)
    need_number(number, how_many_of(jobs, tale))
    return tuple([place for place, step in nth_line(_needed(jobs, tupled(tale)), number)])


def _coming_links(jobs, tale):
    """The links between SPOTS that the NEEDS make; refused if a JOB is watched, or the TALE does not come."""
    _need_none_watched(jobs)
    links = links_of(_spots(jobs), _needs(jobs, tale))
    if any_ring(links) is not None:
        raise CanNot()
    return links


def _pairs_of_jobs(jobs):
    return [(one, other) for one in range(len(jobs)) for other in range(one + 1, len(jobs))]


def surely_beside(jobs, tale):
    jobs = tupled(jobs)
    links = _coming_links(jobs, tupled(tale))
    behind = {place: reached_from(links, [(place, 0)]) for place in range(len(jobs))}
    return tuple([(one, other) for one, other in _pairs_of_jobs(jobs)
                  if _commit(jobs, other) in behind[one] and _commit(jobs, one) in behind[other]])


def _can_be_beside(jobs, links, one, other):
    more = {spot: list(links[spot]) for spot in links}
    more[(one, 0)].append(_commit(jobs, other))
    more[(other, 0)].append(_commit(jobs, one))
    return any_ring(more) is None


def maybe_beside(jobs, tale):
    jobs = tupled(jobs)
    links = _coming_links(jobs, tupled(tale))
    return tuple([(one, other) for one, other in _pairs_of_jobs(jobs) if _can_be_beside(jobs, links, one, other)])


def surely_first(jobs, tale):
    jobs = tupled(jobs)
    links = _coming_links(jobs, tupled(tale))
    return ascending([(one, other) for one in links for other in reached_from(links, [one]) if one[0] != other[0]])


def _are_of_one(jobs, one, other):
    return is_let(jobs, one) and is_let(jobs, other) and outcome(jobs, one) == outcome(jobs, other)


def same_tale(jobs, one, other):
    jobs = tupled(jobs)
    _need_few(jobs)
    return _are_of_one(jobs, one, other)


def tale_swaps(jobs, one, other):
    jobs = tupled(jobs)
    _need_none_watched(jobs)
    # On a shortest way only what stands otherwise in the two is turned: all NEEDS stay kept.
    return swaps_between(jobs, one, other) if _are_of_one(jobs, one, other) else None


def is_tale_swaps(jobs, one, other, thing):
    jobs = tupled(jobs)
    _need_none_watched(jobs)
    return _are_of_one(jobs, one, other) and is_swaps_between(jobs, one, other, thing)


def _next_lesser(levels):
    """The GIVINGS that have the next lesser level at one JOB."""
    return [levels[:at] + (LEVELS[rank_of(levels[at]) - 1],) + levels[at + 1:]
            for at in range(len(levels)) if levels[at] != "plain"]


def _givings(jobs, tale):
    found = {}
    # What comes with a GIVING comes with each lesser one; these stand ahead.
    for levels in all_givings(len(jobs)):
        if all([lesser in found for lesser in _next_lesser(levels)]):
            if _least_mix(with_levels(jobs, levels), tale) is not None:
                found[levels] = True
    return tuple(found)


def givings(jobs, tale):
    jobs = tupled(jobs)
    _need_few(jobs)
    return _givings(jobs, tupled(tale))


def highest_givings(jobs, tale):
    jobs = tupled(jobs)
    _need_few(jobs)
    found = _givings(jobs, tupled(tale))
    lesser = [lower for levels in found for lower in _next_lesser(levels)]
    return tuple([levels for levels in found if levels not in lesser])


def _all_rows(jobs):
    """The ascending list of the rows that can stand in a TALE."""
    found = [()]
    for row in _written_rows(jobs):
        found = [rows + ((row, line),) for rows in found for line in all_orders(_writers(jobs, row))]
    return found


def rows_for(jobs, seen):
    jobs, seen = tupled(jobs), tupled(seen)
    _need_few(jobs)
    return [rows for rows in _all_rows(jobs) if _least_mix(jobs, (seen, rows)) is not None]


def tale_for(jobs, seen):
    found = rows_for(jobs, seen)
    return (tupled(seen), found[0]) if found else None
