"""Which copies of PROGRAMS stand as others behind a head, whatever ROWS they are filled with.

A loose copy is a pair (place, rows) in which each slot has a ROW of the head, or the one free ROW of its table. Whoever
is clashed with by way of a free ROW can be filled with this ROW, and with new ones else: none of the demands of a head
bars a ROW that it does not have itself.
"""

from nosplit.demands import demands_at, entries
from nosplit.facts import row_name


def filled_with(program, rows):
    """The JOB of a copy of this PROGRAM with these ROWS for its slots."""
    level, slots, steps = program
    names = {slots[at][0]: rows[at] for at in range(len(slots))}
    return level, tuple([(kind, names[slot]) for kind, slot in steps])


def tables_of(programs):
    """The tables of their slots, in the order in which these stand, some maybe more than once."""
    return [table for level, slots, steps in programs for slot, table in slots]


def _head_rows(program):
    return tuple([row_name(at) for at in range(len(program[1]))])


def _free_rows(programs, head):
    """For each table its free ROW: none that the head has."""
    free = {}
    for table in tables_of(programs):
        if table not in free:
            free[table] = row_name(len(head[1]) + len(free))
    return free


def _rows_for(table, head, free, lone):
    """The ROWS that a slot of this table can have in a loose copy."""
    rows = _head_rows(head)
    same = [rows[at] for at in range(len(rows)) if head[1][at][1] == table]
    return same if same and table in lone else same + [free[table]]


def _loose_rows(program, head, free, lone):
    """The ROWS of all loose copies of this PROGRAM: none of the head's stands in one twice."""
    found = [()]
    for slot, table in program[1]:
        able = _rows_for(table, head, free, lone)
        found = [rows + (row,) for rows in found for row in able if row == free[table] or row not in rows]
    return found


def _loose_copies(programs, lone, head):
    """All loose copies; the head is the first one."""
    free = _free_rows(programs, programs[head])
    found = [(head, _head_rows(programs[head]))]
    for place in range(len(programs)):
        found = found + [(place, rows) for rows in _loose_rows(programs[place], programs[head], free, lone)]
    return found


def _who_does(jobs, some):
    """For each STEP those of some JOBS that do it."""
    found = {}
    for place in some:
        for step in jobs[place][1]:
            found[step] = found.get(step, []) + [place]
    return found


def _clashing_with(done, step):
    """Those of the JOBS in done that do a STEP that clashes with this one."""
    found = done.get(("write", step[1]), [])
    return found + done.get(("read", step[1]), []) if step[0] == "write" else found


def _way_back(came, pair):
    way = ()
    while pair is not None:
        way = (pair[0],) + way
        pair = came[pair]
    return way


def _fewest_others(jobs, asks):
    """As few others as can be that meet the demands, each clashing with the next one; None if none do."""
    done, layer, asked = _who_does(jobs, asks.able), entries(asks, asks.firsts, 0), {}
    came = {pair: None for pair in layer}
    while layer:
        last = [pair for pair in layer if pair[0] in asks.lasts]
        if last:
            return _way_back(came, last[0])
        behind = []
        for pair in layer:
            for step in jobs[pair[0]][1]:
                # What clashes with a STEP, behind a mark, is asked for just once: so all of this stays short.
                if (step, pair[1]) not in asked:
                    asked[(step, pair[1])] = True
                    for after in entries(asks, _clashing_with(done, step), pair[1]):
                        if after not in came:
                            came[after] = pair
                            behind.append(after)
        layer = behind
    return None


class Heads:
    """PROGRAMS, and their loose copies beside a copy of each of them."""

    def __init__(self, programs, lone):
        self.programs = programs
        self.lone = lone
        self.copies = [_loose_copies(programs, lone, head) for head in range(len(programs))]

    def others(self, head, number):
        """The fewest loose copies that are the others of a SPLIT of this head and STEP; None if there are none."""
        copies = self.copies[head]
        jobs = [filled_with(self.programs[place], rows) for place, rows in copies]
        found = _fewest_others(jobs, demands_at(jobs, 0, number))
        return None if found is None else [copies[at] for at in found]
