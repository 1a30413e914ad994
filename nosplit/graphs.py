"""Ways along links: a dict with, for each node, the ascending list of those that it leads to."""


def reached_from(links, starts):
    """The ascending list of the nodes that ways from starts come to, starts among them."""
    found = {}
    ahead = list(starts)
    while ahead:
        node = ahead.pop()
        if node not in found:
            found[node] = True
            ahead = ahead + links[node]
    return sorted(list(found))


def how_far(links, goals):
    """For each node from which a way leads to a goal, how many nodes lie behind it on a shortest one."""
    far = {goal: 0 for goal in goals}
    distance = 0
    grown = True
    while grown:
        distance += 1
        layer = [node for node in links if node not in far and any([after in far for after in links[node]])]
        for node in layer:
            far[node] = distance
        grown = len(layer) > 0
    return far


def least_way(links, starts, goals):
    """Of the ways from a start to a goal with the fewest nodes the least tuple; None if there is none."""
    far = how_far(links, goals)
    able = [node for node in starts if node in far]
    if not able:
        return None
    left = min([far[node] for node in able])
    way = [min([node for node in able if far[node] == left])]
    while left > 0:
        left -= 1
        way.append(min([node for node in links[way[-1]] if node in far and far[node] == left]))
    return tuple(way)


def links_within(links, nodes):
    """The links among these nodes alone."""
    return {node: [after for after in links[node] if after in nodes] for node in nodes}
