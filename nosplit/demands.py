"""What a head, cut somewhere, asks of the others of a SPLIT, and the ways of others that meet it."""

from nosplit.facts import any_clash, reads_from, rows_of_kind, writes_row
from nosplit.graphs import least_way
from nosplit.values import are_numbers_below, are_unlike, is_number_below, is_tuple_of


class Demands:
    """Who may stand among others at all, who first, who last; who marks, and who answers."""

    def __init__(self, able, firsts, lasts, marks, answers):
        self.able = able
        self.firsts = firsts
        self.lasts = lasts
        self.marks = marks
        self.answers = answers


def _writes_any(job, rows):
    return any([writes_row(job, row) for row in rows])


def _can_be_last(jobs, head, behind, other):
    if reads_from(jobs[other], jobs[head]):
        return True
    return jobs[head][0] == "plain" and any_clash(behind, jobs[other][1])


def demands_of(jobs, head, ahead, at, behind):
    """The demands of this head, cut behind the reads in at; its other STEPS stand ahead of these, or behind."""
    level, steps = jobs[head]
    kept, read = rows_of_kind(ahead if level == "plain" else steps, "write"), rows_of_kind(at, "read")
    able = {other: True for other in range(len(jobs)) if other != head and not _writes_any(jobs[other], kept)}
    watched = [other for other in able if level == "watched" and jobs[other][0] == "watched"]
    return Demands(able,
                   [other for other in able if _writes_any(jobs[other], read)],
                   {other: True for other in able if _can_be_last(jobs, head, behind, other)},
                   {other: True for other in watched if reads_from(jobs[head], jobs[other])},
                   {other: True for other in watched if reads_from(jobs[other], jobs[head])})


def demands_at(jobs, head, place):
    """What this head, cut behind this read, asks of others."""
    steps = jobs[head][1]
    return demands_of(jobs, head, steps[:place], steps[place:place + 1], steps[place + 1:])


def mark_behind(asks, mark, other):
    """The mark with which the other one comes behind one of this mark; None if it may not."""
    new = 1 if other in asks.marks else mark
    return None if new == 1 and other in asks.answers else new


def entries(asks, others, mark):
    """The pairs (job, mark) of those of the others who may come behind one of this mark."""
    pairs = [(other, mark_behind(asks, mark, other)) for other in others]
    return [pair for pair in pairs if pair[1] is not None]


def ways_to_meet(asks, follows):
    """Pairs (job, mark) to walk along: those to start from, the links, those to end with."""
    links = {}
    for job in asks.able:
        for mark in (0, 1):
            links[(job, mark)] = entries(asks, [other for other in follows[job] if other in asks.able], mark)
    return entries(asks, asks.firsts, 0), links, [(other, mark) for other in asks.lasts for mark in (0, 1)]


def shortest_others(asks, follows):
    """The least tuple of the fewest others that meet the demands; None if none do."""
    # Whoever comes twice in a walk over pairs can be cut short there: a shortest one has no two alike.
    starts, links, goals = ways_to_meet(asks, follows)
    way = least_way(links, starts, goals)
    return None if way is None else tuple([job for job, mark in way])


def meet(asks, follows, others):
    """Whether these others, JOBS and no two alike, meet the demands, each but the first one following."""
    if others[0] not in asks.firsts or others[-1] not in asks.lasts:
        return False
    if not all([others[at + 1] in follows[others[at]] for at in range(len(others) - 1)]):
        return False
    mark = 0
    for other in others:
        mark = mark_behind(asks, mark, other)
        if mark is None or other not in asks.able:
            return False
    return True


def _is_of_kind(jobs, head, place, kind):
    return jobs[head][1][place][0] == kind


def cuts_in(jobs, kind):
    """The pairs of a place and the number of a STEP of this kind of the JOB there, ascending."""
    return [(head, place) for head in range(len(jobs)) for place in range(len(jobs[head][1]))
            if _is_of_kind(jobs, head, place, kind)]


def is_cut(jobs, thing, kind):
    """Whether thing is a triple of a JOB, a STEP of it of this kind, and one or more other JOBS, no two alike."""
    if not is_tuple_of(thing, 3):
        return False
    head, place, others = thing
    if not is_number_below(head, len(jobs)) or not is_number_below(place, len(jobs[head][1])):
        return False
    if not _is_of_kind(jobs, head, place, kind) or not are_numbers_below(others, len(jobs)):
        return False
    return len(others) > 0 and head not in others and are_unlike(others)
