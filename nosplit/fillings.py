"""PROGRAMS, whose slots are filled with ROWS: what is safe for all numbers of copies and all ROWS."""

from nosplit.copies import Heads, filled_with, tables_of
from nosplit.errors import Unfit
from nosplit.facts import is_row, least_giving, row_name, steps_clash
from nosplit.jobs import is_job, rows_of
from nosplit.splits import is_split
from nosplit.values import are_tuples_of, are_unlike, ascending, greatest_sets, is_number_below, is_tuple_of, tupled


def _are_slots(thing):
    """Whether thing is a tuple of pairs (slot, table)."""
    return are_tuples_of(thing, 2) and all([is_row(part) for pair in thing for part in pair])


def is_program(thing):
    if not is_tuple_of(thing, 3) or not _are_slots(thing[1]):
        return False
    # The ROWS of a JOB are a set: slots that are not ascending, or of which two are alike, are not equal to it.
    job = (thing[0], thing[2])
    return is_job(job) and rows_of((job,)) == tuple([slot for slot, table in thing[1]])


def _has_two(program, table):
    """Whether this PROGRAM has two slots of the table."""
    return tables_of([program]).count(table) > 1


def can_be_lone(programs, lone):
    """Whether no PROGRAM has two slots of one of these tables."""
    return not any([_has_two(program, table) for program in programs for table in lone])


def _need_lone(programs, lone):
    if not can_be_lone(programs, lone):
        raise Unfit()


def _is_copy(programs, thing):
    if not is_tuple_of(thing, 2) or not is_number_below(thing[0], len(programs)):
        return False
    rows = thing[1]
    if not is_tuple_of(rows, len(programs[thing[0]][1])):
        return False
    return all([is_row(row) for row in rows]) and are_unlike(rows)


def _agree(programs, lone, company):
    """Whether no ROW stands for slots of two tables, and those of a lone table have one ROW."""
    table_of, row_of = {}, {}
    for place, rows in company:
        tables = tables_of([programs[place]])
        for at in range(len(rows)):
            row, table = rows[at], tables[at]
            if table_of.setdefault(row, table) != table:
                return False
            if table in lone and row_of.setdefault(table, row) != row:
                return False
    return True


def _is_company(programs, lone, thing):
    if not isinstance(thing, tuple) or not all([_is_copy(programs, copy) for copy in thing]):
        return False
    return _agree(programs, lone, thing)


def is_company(programs, lone, thing):
    programs = tupled(programs)
    _need_lone(programs, lone)
    return _is_company(programs, lone, thing)


def filled(programs, company):
    programs = tupled(programs)
    return tuple([filled_with(programs[place], rows) for place, rows in tupled(company)])


def as_programs(jobs):
    jobs = tupled(jobs)
    programs = [(level, tuple([(row, row) for row in rows_of(((level, steps),))]), steps) for level, steps in jobs]
    return tuple(programs), rows_of(jobs)


def _all_cuts(programs):
    """The pairs of a place and the number of a STEP of this PROGRAM that is a read."""
    return [(place, number) for place in range(len(programs)) for number in range(len(programs[place][2]))
            if programs[place][2][number][0] == "read"]


def _is_safe(programs, lone):
    heads = Heads(programs, lone)
    for place, number in _all_cuts(programs):
        if heads.others(place, number) is not None:
            return False
    return True


def are_safe(programs, lone):
    programs, lone = tupled(programs), tupled(lone)
    _need_lone(programs, lone)
    return _is_safe(programs, lone)


def _all_found(programs, lone):
    """For each head and STEP with which some COMPANY has a SPLIT a triple of these and the fewest loose others."""
    heads = Heads(programs, lone)
    found = [(place, number, heads.others(place, number)) for place, number in _all_cuts(programs)]
    return [told for told in found if told[2] is not None]


def _fewest_found(programs, lone):
    """The one of these with the fewest others; None if there is none."""
    _need_lone(programs, lone)
    found = _all_found(programs, lone)
    return min(found, key=lambda told: len(told[2])) if found else None


def fewest_copies(programs, lone):
    found = _fewest_found(tupled(programs), tupled(lone))
    return None if found is None else 1 + len(found[2])


def safe_up_to(programs, lone, many):
    fewest = fewest_copies(programs, lone)
    return fewest is None or many < fewest


def _named_steps(program, rows):
    """Triples of the number of a slot, what is done, and the ROW, for each STEP of a copy."""
    names = [slot for slot, table in program[1]]
    return [(names.index(slot), kind, rows[names.index(slot)]) for kind, slot in program[2]]


def _slots_in_touch(programs, front, behind):
    """The numbers of a slot of each of two loose copies by which they clash."""
    for mine, kind, row in _named_steps(programs[front[0]], front[1]):
        for theirs, does, other in _named_steps(programs[behind[0]], behind[1]):
            if steps_clash((kind, row), (does, other)):
                return mine, theirs
    return None


def _company_of(programs, lone, head, others):
    """A COMPANY of a copy of the head and what the loose copies stand for, each one clashing with the next one."""
    first = tuple([row_name(at) for at in range(len(programs[head][1]))])
    company, used, single = [(head, first)], list(first), {}
    for at in range(len(others)):
        place, loose = others[at]
        tables, rows = tables_of([programs[place]]), []
        for slot in range(len(loose)):
            row = loose[slot] if loose[slot] in first else row_name(len(used))
            if tables[slot] in lone:
                row = single.setdefault(tables[slot], row)
            rows.append(row)
            used.append(row)
        if at > 0:
            mine, theirs = _slots_in_touch(programs, others[at - 1], others[at])
            rows[theirs] = company[-1][1][mine]
        company.append((place, tuple(rows)))
    return tuple(company)


def bad_company(programs, lone):
    programs, lone = tupled(programs), tupled(lone)
    found = _fewest_found(programs, lone)
    if found is None:
        return None
    head, number, others = found
    split = (0, number, tuple(range(1, len(others) + 1)))
    return _company_of(programs, lone, head, others), split


def is_bad_company(programs, lone, thing):
    programs = tupled(programs)
    _need_lone(programs, lone)
    if not is_tuple_of(thing, 2) or not _is_company(programs, lone, thing[0]):
        return False
    return is_split(filled(programs, thing[0]), thing[1])


def bad_heads(programs, lone):
    programs, lone = tupled(programs), tupled(lone)
    _need_lone(programs, lone)
    return tuple([(place, number) for place, number, others in _all_found(programs, lone)])


def greatest_safe(programs, lone):
    programs, lone = tupled(programs), tupled(lone)
    _need_lone(programs, lone)
    return greatest_sets(len(programs), lambda some: _is_safe(tuple([programs[place] for place in some]), lone))


def _with_table(lone, table):
    return ascending(lone + (table,))


def saving_tables(programs, lone):
    programs, lone = tupled(programs), tupled(lone)
    _need_lone(programs, lone)
    able = [table for table in ascending(tables_of(programs)) if table not in lone and can_be_lone(programs, (table,))]
    return tuple([table for table in able if _is_safe(programs, _with_table(lone, table))])


def with_lone(programs, lone, table):
    programs, lone = tupled(programs), tupled(lone)
    _need_lone(programs, lone)
    if table not in tables_of(programs) or not can_be_lone(programs, (table,)):
        raise Unfit()
    return _with_table(lone, table)


def _at_levels(programs, levels):
    return tuple([(levels[place],) + programs[place][1:] for place in range(len(programs))])


def is_enough_for(programs, lone, levels):
    return are_safe(_at_levels(tupled(programs), levels), lone)


def least_for(programs, lone):
    programs, lone = tupled(programs), tupled(lone)
    _need_lone(programs, lone)
    return least_giving(len(programs), lambda levels: _is_safe(_at_levels(programs, levels), lone))


def least_for_more(programs, lone, program):
    return least_for(tupled(programs) + (tupled(program),), lone)
