"""Lines of nodes in which each stands behind those that it needs ahead; needed tells these for each node."""

from nosplit.values import without


def needed_ahead(nodes, pairs):
    """For each of these nodes those of them that pairs (one, other) of two of them put ahead of it."""
    needed = {node: [] for node in nodes}
    for one, other in pairs:
        if one in needed and other in needed and one not in needed[other]:
            needed[other].append(one)
    return needed


def free_in(needed, rest):
    """Those of the rest that can stand ahead of all others of it."""
    left = {node: True for node in rest}
    return [node for node in rest if not any([other in left for other in needed[node]])]


def all_nodes(needed):
    return tuple(sorted(needed))


def count_lines(needed, rest, known):
    """In how many lines the rest can stand; known keeps the counts that are there already."""
    if not rest:
        return 1
    if rest not in known:
        known[rest] = sum([count_lines(needed, without(rest, node), known) for node in free_in(needed, rest)])
    return known[rest]


def least_line(needed):
    """The least line of them all; None if there is none."""
    line, rest = (), all_nodes(needed)
    while rest:
        free = free_in(needed, rest)
        if not free:
            return None
        line, rest = line + (free[0],), without(rest, free[0])
    return line


def all_lines(needed):
    """The ascending list of all lines."""
    nodes = all_nodes(needed)
    found, ahead = [], [()]
    while ahead:
        line = ahead.pop()
        rest = tuple([node for node in nodes if node not in line])
        if not rest:
            found.append(line)
        for node in free_in(needed, rest):
            ahead.append(line + (node,))
    return sorted(found)


def nth_line(needed, number):
    """The line with this number, which is below how many there are, in the ascending list."""
    rest, known = all_nodes(needed), {}
    line, left = (), number
    while rest:
        free, at = free_in(needed, rest), 0
        while left >= count_lines(needed, without(rest, free[at]), known):
            left -= count_lines(needed, without(rest, free[at]), known)
            at += 1
        line, rest = line + (free[at],), without(rest, free[at])
    return line
