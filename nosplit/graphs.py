"""Ways along links: a dict with, for each node, the ascending list of those that it leads to."""

from nosplit.values import are_unlike, ascending


def reached_from(links, starts):
    """The ascending list of the nodes that ways from starts come to, starts among them."""
    found = {}
    ahead = list(starts)
    while ahead:
        node = ahead.pop()
        if node not in found:
            found[node] = True
            ahead = ahead + links[node]
    return sorted(list(found))


def lots_in(links):
    """The set of the sets of nodes that hang together, where links lead both ways."""
    return ascending([tuple(reached_from(links, [node])) for node in links])


def is_way(links, starts, goals, nodes):
    """Whether these nodes, one at least and no two alike, are a way from a start to a goal."""
    if not nodes or not are_unlike(nodes) or not all([node in links for node in nodes]):
        return False
    if nodes[0] not in starts or nodes[-1] not in goals:
        return False
    return all([nodes[at + 1] in links[nodes[at]] for at in range(len(nodes) - 1)])


def how_far(links, goals):
    """For each node from which a way leads to a goal, how many nodes lie behind it on a shortest one."""
    far = {goal: 0 for goal in goals}
    distance = 0
    grown = True
    while grown:
        distance += 1
        layer = [node for node in links if node not in far and any([after in far for after in links[node]])]
        for node in layer:
            far[node] = distance
        grown = len(layer) > 0
    return far


def least_way(links, starts, goals):
    """Of the ways from a start to a goal with the fewest nodes the least tuple; None if there is none."""
    far = how_far(links, goals)
    able = [node for node in starts if node in far]
    if not able:
        return None
    left = min([far[node] for node in able])
    way = [min([node for node in able if far[node] == left])]
    while left > 0:
        left -= 1
        way.append(min([node for node in links[way[-1]] if node in far and far[node] == left]))
    return tuple(way)


def links_within(links, nodes):
    """The links among these nodes alone."""
    return {node: [after for after in links[node] if after in nodes] for node in nodes}


def links_of(nodes, pairs):
    """The links that these pairs (one, other) of the nodes make."""
    told = {pair: True for pair in pairs}
    return {one: [other for other in nodes if (one, other) in told] for one in nodes}


def _endless(links):
    """The nodes from which one can go on without an end."""
    left, many = {node: True for node in links}, len(links) + 1
    while len(left) < many:
        many = len(left)
        left = {node: True for node in left if any([after in left for after in links[node]])}
    return left


def any_ring(links):
    """A tuple of nodes, no two alike, each leading to the next one, the last to the first; None if there is none."""
    left = _endless(links)
    if not left:
        return None
    way = [min(list(left))]
    while way[-1] not in way[:-1]:
        way.append(min([after for after in links[way[-1]] if after in left]))
    return tuple(way[way.index(way[-1]):-1])


def _halved(links, starts, goals):
    """Links among the halves of nodes: (1, node) leads into a node, (2, node) out of it; from (0, 0) to (3, 0)."""
    halves = {(0, 0): [(1, node) for node in starts], (3, 0): []}
    for node in links:
        halves[(1, node)] = [(2, node)]
        halves[(2, node)] = [(1, after) for after in links[node]] + ([(3, 0)] if node in goals else [])
    return halves


def _turned_along(halves, way):
    """The links with each one along this way the other way round."""
    turned = {half: list(halves[half]) for half in halves}
    for at in range(len(way) - 1):
        turned[way[at]].remove(way[at + 1])
        turned[way[at + 1]].append(way[at])
    return turned


def _way_along(taken, half):
    """The nodes of the way that is taken from this half on."""
    nodes = []
    while half != (3, 0):
        nodes.append(half[1])
        half = taken[(2, half[1])][0]
    return tuple(nodes)


def ways_apart(links, starts, goals):
    """As many ways from starts to goals as can be, no two with a node in common."""
    halves = _halved(links, starts, goals)
    left, way = halves, least_way(halves, [(0, 0)], [(3, 0)])
    while way is not None:
        left = _turned_along(left, way)
        way = least_way(left, [(0, 0)], [(3, 0)])
    # What was taken, and not given back, stands the other way round now.
    taken = {half: [after for after in halves[half] if after not in left[half]] for half in halves}
    return [_way_along(taken, half) for half in taken[(0, 0)]]
