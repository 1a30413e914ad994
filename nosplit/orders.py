"""EDGES of a MIX, RINGS and KNOTS of them, and the orders that keep them."""

from nosplit.checks import need_number
from nosplit.errors import CanNot
from nosplit.graphs import least_way, links_within, reached_from
from nosplit.jobs import rows_of
from nosplit.lines import all_lines, all_nodes, count_lines, least_line, needed_ahead, nth_line
from nosplit.runs import read_moves, run_of, version_seen, writers_ahead
from nosplit.values import ascending, is_number, is_turn, tupled, without


def _write_edges(row, line):
    """The EDGES between those who write the ROW, told in the order of their commits."""
    many = len(line)
    return [(line[at], line[later], row, "over") for at in range(many) for later in range(at + 1, many)]


def _read_edges(run, move, row, line):
    """The EDGES between who reads the ROW at this move and those who write it, in the order of their commits."""
    reader, seen = run.moves[move][0], version_seen(run, move)
    count = 0 if seen is None else line.index(seen) + 1
    ahead = [(writer, reader, row, "seen") for writer in line[:count]]
    return ahead + [(reader, writer, row, "missed") for writer in line[count:] if writer != reader]


def edges(jobs, mix):
    jobs, mix = tupled(jobs), tupled(mix)
    run, found = run_of(jobs, mix), []
    lines = {row: writers_ahead(run, row, len(mix)) for row in rows_of(jobs)}
    for row in lines:
        found = found + _write_edges(row, lines[row])
    for place in range(len(jobs)):
        for move in read_moves(run, place):
            row = jobs[place][1][run.moves[move][1]][1]
            found = found + _read_edges(run, move, row, lines[row])
    return ascending(found)


def broken_by(jobs, mix, order):
    order = tupled(order)
    return tuple([edge for edge in edges(jobs, mix) if order.index(edge[0]) > order.index(edge[1])])


def _links(quadruples):
    """For each number in these EDGES the ascending list of those to which EDGES lead from it."""
    pairs = {(quadruple[0], quadruple[1]): True for quadruple in quadruples}
    nodes = ascending([node for pair in pairs for node in pair])
    return {one: [other for other in nodes if (one, other) in pairs] for one in nodes}


def is_ring(edges, thing):
    if not isinstance(thing, tuple) or len(thing) < 2 or not all([is_number(part) for part in thing]):
        return False
    if len(ascending(thing)) < len(thing) or min(thing) != thing[0]:
        return False
    links = _links(tupled(edges))
    turned = thing[1:] + thing[:1]
    return all([thing[at] in links and turned[at] in links[thing[at]] for at in range(len(thing))])


def _least_ring_from(links, first):
    """Of the RINGS with this number for their least one, and the fewest in all, the least; None without."""
    later = links_within(links, [node for node in links if node > first])
    way = least_way(later, [node for node in links[first] if node > first],
                    [node for node in later if first in links[node]])
    return None if way is None else (first,) + way


def least_ring(edges):
    links = _links(tupled(edges))
    rings = [ring for ring in [_least_ring_from(links, first) for first in links] if ring is not None]
    return min(rings, key=lambda ring: (len(ring), ring)) if rings else None


def ring_in(edges):
    return least_ring(edges)


def all_rings(edges):
    links = _links(tupled(edges))
    found, ahead = [], [(first,) for first in links]
    while ahead:
        way = ahead.pop()
        for node in links[way[-1]]:
            if node == way[0]:
                found.append(way)
            elif node > way[0] and node not in way:
                ahead.append(way + (node,))
    return sorted(found)


def knots(edges):
    links = _links(tupled(edges))
    reached = {node: reached_from(links, [node]) for node in links}
    sets = [tuple([other for other in reached[node] if node in reached[other]]) for node in links]
    return ascending([together for together in sets if len(together) > 1])


def _needed_by(places, quadruples):
    """For each of these places those of them from which EDGES lead to it."""
    return needed_ahead(places, [(quadruple[0], quadruple[1]) for quadruple in quadruples])


def _needed(jobs, mix):
    return _needed_by(list(range(len(jobs))), edges(jobs, mix))


def is_straight(jobs, mix):
    return least_order(jobs, mix) is not None


def straight_orders(jobs, mix):
    return all_lines(_needed(tupled(jobs), mix))


def how_many_orders(jobs, mix):
    needed = _needed(tupled(jobs), mix)
    return count_lines(needed, all_nodes(needed), {})


def nth_order(jobs, mix, number):
    need_number(number, how_many_orders(jobs, mix))
    return nth_line(_needed(tupled(jobs), mix), number)


def least_order(jobs, mix):
    return least_line(_needed(tupled(jobs), mix))


def is_straight_order(jobs, mix, thing):
    return is_turn(thing, len(jobs)) and not broken_by(jobs, mix, thing)


def _reached_by(jobs, mix):
    """For each place the list of those to which EDGES lead from it; refused if the MIX is not straight."""
    jobs = tupled(jobs)
    if not is_straight(jobs, mix):
        raise CanNot()
    links = {place: [] for place in range(len(jobs))}
    for one, other, row, kind in edges(jobs, mix):
        links[one].append(other)
    return {place: without(reached_from(links, [place]), place) for place in links}


def surely_ahead(jobs, mix):
    reached = _reached_by(jobs, mix)
    return tuple([(one, other) for one in reached for other in reached[one]])


def either_way(jobs, mix):
    reached = _reached_by(jobs, mix)
    return tuple([(one, other) for one in reached for other in reached
                  if one < other and other not in reached[one] and one not in reached[other]])


def spoilt_at(jobs, mix):
    jobs, mix = tupled(jobs), tupled(mix)
    found, run, committed = edges(jobs, mix), run_of(jobs, mix), []
    for move in range(len(mix)):
        place, step = run.moves[move]
        if step is None:
            committed.append(place)
            if least_line(_needed_by(committed, found)) is None:
                return move
    return None


def _broken_ahead_of(found, rest, place):
    """How many EDGES are broken by standing ahead of the rest."""
    return len([edge for edge in found if edge[1] == place and edge[0] in rest])


def _fewest_broken(found, rest, known):
    """How many EDGES among the rest the best row of it breaks; known keeps what is told already."""
    if not rest:
        return 0
    if rest not in known:
        known[rest] = min([_broken_ahead_of(found, rest, place) + _fewest_broken(found, without(rest, place), known)
                           for place in rest])
    return known[rest]


def nearest_order(jobs, mix):
    jobs = tupled(jobs)
    found, rest, known = edges(jobs, mix), tuple(range(len(jobs))), {}
    row = ()
    while rest:
        fewest = _fewest_broken(found, rest, known)
        best = [place for place in rest if fewest == _broken_ahead_of(found, rest, place)
                + _fewest_broken(found, without(rest, place), known)]
        row, rest = row + (best[0],), without(rest, best[0])
    return row
