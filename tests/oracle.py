"""The definitions of the document, written out as they stand there, slowly, and apart from the package.

What the package answers is compared with this. Nothing of nosplit is used here.
"""

from itertools import permutations, product

LEVELS = ("plain", "shot", "watched")


def steps_of_rows(rows, most):
    """All tuples of at most so many STEPS over these ROWS that a JOB can have."""
    steps = [(kind, row) for row in rows for kind in ("read", "write")]
    return [line for many in range(most + 1) for line in product(steps, repeat=many) if is_line(line)]


def is_line(line):
    for at, (kind, row) in enumerate(line):
        ahead = line[:at]
        if (kind, row) in ahead or (kind == "read" and ("write", row) in ahead):
            return False
    return True


def at_levels(steps, levels):
    return tuple(zip(levels, steps))


def all_levels(many):
    return list(product(LEVELS, repeat=many))


def mixes(jobs):
    """All MIXES, ascending."""
    found = []

    def go_on(done, left):
        if not any(left):
            found.append(tuple(done))
        for place, many in enumerate(left):
            if many:
                go_on(done + [place], left[:place] + [many - 1] + left[place + 1:])

    go_on([], [len(steps) + 1 for _, steps in jobs])
    return found


def moves(jobs, mix, place):
    return [number for number, who in enumerate(mix) if who == place]


def begin(jobs, mix, place):
    return moves(jobs, mix, place)[0]


def commit(jobs, mix, place):
    return moves(jobs, mix, place)[-1]


def beside(jobs, mix, one, other):
    return (one != other and begin(jobs, mix, one) < commit(jobs, mix, other)
            and begin(jobs, mix, other) < commit(jobs, mix, one))


def versions(jobs, mix, row, move):
    """Who wrote the versions that are there at this move; None the first one."""
    writers = [place for place, (_, steps) in enumerate(jobs) if ("write", row) in steps]
    there = [place for place in writers if commit(jobs, mix, place) < move]
    return [None] + sorted(there, key=lambda place: commit(jobs, mix, place))


def seen(jobs, mix, place, step):
    move = moves(jobs, mix, place)[step]
    if jobs[place][0] != "plain":
        move = begin(jobs, mix, place)
    return versions(jobs, mix, jobs[place][1][step][1], move)[-1]


def reads(jobs, place):
    return [(number, row) for number, (kind, row) in enumerate(jobs[place][1]) if kind == "read"]


def writes(jobs, place):
    return [(number, row) for number, (kind, row) in enumerate(jobs[place][1]) if kind == "write"]


def outcome(jobs, mix):
    rows = sorted({row for place in range(len(jobs)) for _, row in writes(jobs, place)})
    told = tuple(tuple(seen(jobs, mix, place, step) for step, _ in reads(jobs, place)) for place in range(len(jobs)))
    return told, tuple((row, tuple(versions(jobs, mix, row, len(mix))[1:])) for row in rows)


def whole(jobs, order):
    return tuple(place for place in order for _ in range(len(jobs[place][1]) + 1))


def whole_outcomes(jobs):
    return [outcome(jobs, whole(jobs, order)) for order in permutations(range(len(jobs)))]


def is_straight(jobs, mix):
    return outcome(jobs, mix) in whole_outcomes(jobs)


def who_bars_write(jobs, mix, place, step):
    """Those because of whom this write breaks (w)."""
    move, row, found = moves(jobs, mix, place)[step], jobs[place][1][step][1], set()
    for other in range(len(jobs)):
        for number, written in writes(jobs, other):
            if other == place or written != row:
                continue
            write, end = moves(jobs, mix, other)[number], commit(jobs, mix, other)
            if write < move < end:
                found.add(other)
            if jobs[place][0] != "plain" and begin(jobs, mix, place) < end < move:
                found.add(other)
    return found


def reads_past(jobs, mix, one, other):
    """Whether one reads a ROW that other writes, and does not see other's version."""
    written = [row for _, row in writes(jobs, other)]
    return any(row in written and seen(jobs, mix, one, step) != other for step, row in reads(jobs, one))


def pinches(jobs, mix):
    found, places = [], range(len(jobs))
    for x, j, y in product(places, repeat=3):
        if j in (x, y) or not all(jobs[place][0] == "watched" for place in (x, j, y)):
            continue
        ends = [commit(jobs, mix, place) for place in (x, j, y)]
        if (beside(jobs, mix, x, j) and beside(jobs, mix, j, y)
                and reads_past(jobs, mix, x, j) and reads_past(jobs, mix, j, y)
                and ends[2] < ends[1] and (x == y or ends[2] < ends[0])):
            found.append((x, j, y))
    return found


def bars(jobs, mix):
    """For each move of a MIX the pair of its rule and the set of those who bar it; None where nobody does."""
    told, triples = [], pinches(jobs, mix)
    for move, place in enumerate(mix):
        step = mix[:move].count(place)
        if step == len(jobs[place][1]):
            rule = "p"
            found = {other for triple in triples if place in triple
                     and all(commit(jobs, mix, other) <= move for other in triple)
                     for other in triple if other != place}
        else:
            rule = "w"
            found = who_bars_write(jobs, mix, place, step) if jobs[place][1][step][0] == "write" else set()
        told.append((rule, found) if found else None)
    return told


def is_let(jobs, mix):
    return not any(bars(jobs, mix))


def edges(jobs, mix):
    found, places = set(), range(len(jobs))
    rows = {row for place in places for _, row in jobs[place][1]}
    for one, other, row in product(places, places, rows):
        if one == other:
            continue
        line = versions(jobs, mix, row, len(mix))
        if one in line and other in line and line.index(one) < line.index(other):
            found.add((one, other, row, "over"))
        for step, read in reads(jobs, other):
            if read == row and one in line and line.index(seen(jobs, mix, other, step)) >= line.index(one):
                found.add((one, other, row, "seen"))
        for step, read in reads(jobs, one):
            if read == row and other in line and line.index(seen(jobs, mix, one, step)) < line.index(other):
                found.add((one, other, row, "missed"))
    return found


def is_safe(jobs):
    outcomes = whole_outcomes(jobs)
    return all(outcome(jobs, mix) in outcomes for mix in mixes(jobs) if is_let(jobs, mix))


def clash(one, other):
    return one[1] == other[1] and "write" in (one[0], other[0])


def do_clash(jobs, one, other):
    return one != other and any(clash(a, b) for a in jobs[one][1] for b in jobs[other][1])


def rows(jobs, place, kind):
    return {row for does, row in jobs[place][1] if does == kind}


def is_split(jobs, head, place, others):
    """Whether head, a read of it and others, other JOBS no two alike, are a SPLIT."""
    level, steps = jobs[head]
    ahead = {row for kind, row in (steps[:place] if level == "plain" else steps) if kind == "write"}
    last = others[-1]
    one = steps[place][1] in rows(jobs, others[0], "write")
    two = all(do_clash(jobs, a, b) for a, b in zip(others, others[1:]))
    three = (bool(rows(jobs, last, "read") & rows(jobs, head, "write"))
             or level == "plain" and any(clash(a, b) for a in steps[place + 1:] for b in jobs[last][1]))
    four = not any(rows(jobs, other, "write") & ahead for other in others)
    five = True
    if level == "watched":
        for at, x in enumerate(others):
            for y in others[at:]:
                if (jobs[x][0] == jobs[y][0] == "watched" and rows(jobs, x, "write") & rows(jobs, head, "read")
                        and rows(jobs, y, "read") & rows(jobs, head, "write")):
                    five = False
    return one and two and three and four and five


def splits(jobs, most=None):
    """All SPLITS, ascending, with at most so many others."""
    found, places = [], range(len(jobs))
    most = len(jobs) - 1 if most is None else min(most, len(jobs) - 1)
    for head in places:
        rest = [place for place in places if place != head]
        for place, _ in reads(jobs, head):
            for many in range(1, most + 1):
                for others in permutations(rest, many):
                    if is_split(jobs, head, place, others):
                        found.append((head, place, others))
    return sorted(found)
