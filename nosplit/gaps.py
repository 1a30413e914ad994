"""Keys, the CELLS between them, who is barred by these, and fences."""

from nosplit.ranges import read_by, touched_by, written, written_by
from nosplit.values import are_pairs_of_numbers, ascending, tupled


def _key_from(keys, number):
    """The least key that is not below the number; None if there is none."""
    above = [key for key in keys if key >= number]
    return min(above) if above else None


def cell_of(keys, number):
    key = _key_from(keys, number)
    return () if key is None else (key,)


def touched(keys, low, high):
    if low > high:
        return ()
    return ascending([(key,) for key in keys if low <= key <= high] + [cell_of(keys, high)])


def bars_all(keys, low, high, cells):
    cells = tupled(cells)
    return all([cell in cells for cell in touched(keys, low, high)])


def barred_beside(keys, low, high):
    if low > high:
        return ()
    lesser, last, found = [key for key in keys if key < low], _key_from(keys, high), []
    first = max(lesser) + 1 if lesser else None
    if first is None or first < low:
        found.append((first, low - 1))
    if last is None or last > high:
        found.append((high + 1, last))
    return tuple(found)


def _pairs(jobs):
    """The pairs of two places."""
    places = list(range(len(jobs)))
    return [(one, other) for one in places for other in places if one != other]


def phantoms(keys, jobs):
    jobs, numbers, found = tupled(jobs), written(jobs), []
    for one, other in _pairs(jobs):
        new = [number for number in written_by(jobs[other][1], numbers) if number not in keys]
        if read_by(jobs[one][1], new):
            found.append((one, other))
    return tuple(found)


def _do_meet(jobs, one, other):
    """Whether one of these RANGE JOBS reads or writes a number that the other one writes."""
    mine, theirs = jobs[one], jobs[other]
    return len(touched_by(mine[1], written([theirs])) + touched_by(theirs[1], written([mine]))) > 0


def _beside(steps, number):
    """For each range among the STEPS the stretch in which a key would keep its CELLS off the number."""
    found = []
    for step in steps:
        if step[0] == "range":
            found.append((step[2], number - 1) if number > step[2] else (number, step[1] - 1))
    return found


def _bare_stretches(keys, jobs, one, other):
    """The stretches without a key because of which one bars other for nothing."""
    if _do_meet(jobs, one, other):
        return []
    found = [stretch for number in written([jobs[other]]) for stretch in _beside(jobs[one][1], number)]
    return [(first, last) for first, last in found if not any([first <= key <= last for key in keys])]


def barred_for_nothing(keys, jobs):
    jobs = tupled(jobs)
    return tuple([pair for pair in _pairs(jobs) if _bare_stretches(keys, jobs, pair[0], pair[1])])


def _stretches(keys, jobs):
    """The set of all stretches that want a fence."""
    return ascending([stretch for one, other in _pairs(jobs) for stretch in _bare_stretches(keys, jobs, one, other)])


def _apart(stretches):
    """As many of these stretches as can be, no two with a number in common, ascending."""
    found = []
    for first, last in sorted(stretches, key=lambda stretch: stretch[1]):
        if not found or found[-1][1] < first:
            found.append((first, last))
    return tuple(found)


def _behind(stretches, fence):
    return [stretch for stretch in stretches if stretch[0] > fence]


def fences(keys, jobs):
    left, found = _stretches(keys, tupled(jobs)), []
    while left:
        # The next one is the least begin behind which fewer are wanted. The last begin up to the first end is such a
        # one: so the least one lies behind no end, and leaves nothing out.
        many = len(_apart(left))
        found.append(min([first for first, last in left if len(_apart(_behind(left, first))) < many]))
        left = _behind(left, found[-1])
    return tuple(found)


def fence_paper(keys, jobs):
    return _apart(_stretches(keys, tupled(jobs)))


def is_fence_paper(keys, jobs, thing):
    stretches = _stretches(keys, tupled(jobs))
    if not are_pairs_of_numbers(thing) or not all([stretch in stretches for stretch in thing]):
        return False
    if not all([thing[at][1] < thing[at + 1][0] for at in range(len(thing) - 1)]):
        return False
    return len(thing) == len(_apart(stretches))
