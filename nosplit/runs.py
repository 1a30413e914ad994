"""How JOBS stand behind the first moves of a MIX, and what bars a next move."""

from nosplit.facts import reads_from, writes_row
from nosplit.values import ascending


class Run:
    """JOBS, and what has been done of them, move by move, barred or not."""

    def __init__(self, jobs):
        self.jobs = jobs
        self.moves = []
        self.begun = [None] * len(jobs)
        self.ended = [None] * len(jobs)
        self.counts = [0] * len(jobs)

    def go(self, place):
        """Do the next move of the JOB at this place."""
        number, step = len(self.moves), self.counts[place]
        if step == 0:
            self.begun[place] = number
        if step == len(self.jobs[place][1]):
            self.ended[place] = number
            self.moves.append((place, None))
        else:
            self.moves.append((place, step))
        self.counts[place] = step + 1


def run_of(jobs, done):
    run = Run(jobs)
    for place in done:
        run.go(place)
    return run


def whole_moves(jobs, order):
    """The moves of these JOBS, each one whole, one behind another."""
    return tuple([place for place in order for _ in range(len(jobs[place][1]) + 1)])


def cut_moves(jobs, split):
    """The moves of head up to and with the STEP at place, of the others, each one whole, and of the rest of head."""
    head, place, others = split
    return (head,) * (place + 1) + whole_moves(jobs, others) + (head,) * (len(jobs[head][1]) - place)


def places_left(jobs, done):
    """The places of the JOBS that have a move left behind these ones."""
    return [place for place in range(len(jobs)) if done.count(place) <= len(jobs[place][1])]


def writers_ahead(run, row, move):
    """The JOBS that write this ROW and committed ahead of this move, in the order of their commits."""
    found = []
    for place in range(len(run.jobs)):
        ended = run.ended[place]
        if ended is not None and ended < move and writes_row(run.jobs[place], row):
            found.append((ended, place))
    return [place for ended, place in sorted(found)]


def version_seen(run, move):
    """Whose version the read at this move sees; None for the first one."""
    place, step = run.moves[move]
    level, steps = run.jobs[place]
    since = move if level == "plain" else run.begun[place]
    line = writers_ahead(run, steps[step][1], since)
    return line[-1] if line else None


def read_moves(run, place):
    """The numbers of the moves of this JOB that are reads."""
    steps = run.jobs[place][1]
    return [move for move in range(len(run.moves)) if run.moves[move][0] == place
            and run.moves[move][1] is not None and steps[run.moves[move][1]][0] == "read"]


def are_both_open(run, one, other):
    """Whether two JOBS that have committed are beside one another."""
    return run.begun[one] < run.ended[other] and run.begun[other] < run.ended[one]


def holds(run, place, row):
    """Whether this JOB has written the ROW and not committed."""
    done = run.jobs[place][1][:run.counts[place]]
    return run.ended[place] is None and ("write", row) in done


def _bar_write(run, place, row):
    jobs, begun = run.jobs, run.begun[place]
    found = [other for other in range(len(jobs)) if other != place and holds(run, other, row)]
    if jobs[place][0] != "plain" and begun is not None:
        for other in range(len(jobs)):
            if other != place and writes_row(jobs[other], row):
                if run.ended[other] is not None and run.ended[other] > begun:
                    found.append(other)
    return ascending(found)


def _misses(run, one, other):
    """Whether the first one reads what the other one writes and, both being beside, does not see it."""
    # A watched JOB sees only what was committed when it began, so never what one beside it commits.
    if one == other or not reads_from(run.jobs[one], run.jobs[other]):
        return False
    return are_both_open(run, one, other)


def pinches_of(run):
    """The ascending list of the pinches among the JOBS that have committed."""
    ended = run.ended
    watched = [place for place in range(len(run.jobs))
               if run.jobs[place][0] == "watched" and ended[place] is not None]
    pairs = [(one, other) for one in watched for other in watched if _misses(run, one, other)]
    return [(x, j, y) for x, j in pairs for through, y in pairs
            if through == j and ended[y] < ended[j] and (x == y or ended[y] < ended[x])]


def _bar_commit(run, place):
    # What is not watched is in no pinch: nobody need be asked.
    if run.jobs[place][0] != "watched":
        return ()
    after = run_of(run.jobs, [mover for mover, step in run.moves] + [place])
    triples = [triple for triple in pinches_of(after) if place in triple]
    return ascending([other for triple in triples for other in triple if other != place])


def next_step(run, place):
    """The next STEP of this JOB; None if its commit, or nothing, is left."""
    steps, number = run.jobs[place][1], run.counts[place]
    return steps[number] if number < len(steps) else None


def barred_write(run, place):
    """The set of those who bar the next move of this JOB by (w); () if nobody does."""
    step = next_step(run, place)
    return _bar_write(run, place, step[1]) if step is not None and step[0] == "write" else ()


def barred_next(run, place):
    """The set of those who bar the next move of this JOB; () if it is not barred."""
    return _bar_commit(run, place) if next_step(run, place) is None else barred_write(run, place)


def bars_along(jobs, done):
    """For each of these moves the set of those who bar it."""
    run, found = Run(jobs), []
    for place in done:
        found.append(barred_next(run, place))
        run.go(place)
    return found


def rule_of(run, move):
    """The rule that can bar this move: (w) a write, (p) a commit."""
    return "p" if run.moves[move][1] is None else "w"
