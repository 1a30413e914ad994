"""What single STEPS and JOBS do, for tuples that are known to be such."""

from nosplit.values import ascending

LEVELS = ("plain", "shot", "watched")
KINDS = ("read", "write")
LETTERS = "abcdefghijklmnopqrstuvwxyz"


def is_row(thing):
    if not isinstance(thing, str) or not 1 <= len(thing) <= 8:
        return False
    return all([sign in LETTERS for sign in thing])


def is_set_of_rows(thing):
    """Whether thing is a set of ROWS."""
    return isinstance(thing, tuple) and all([is_row(part) for part in thing]) and ascending(thing) == thing


def is_level(thing):
    return thing in LEVELS


def rank_of(level):
    return LEVELS.index(level)


def is_lesser(level, other):
    return rank_of(level) < rank_of(other)


def are_at_least(levels, others):
    """Whether the one GIVING is at least the other one."""
    return not any([is_lesser(levels[place], others[place]) for place in range(len(levels))])


def all_givings(many):
    """The ascending list of the GIVINGS of so many JOBS."""
    found = [()]
    for _ in range(many):
        found = [levels + (level,) for levels in found for level in LEVELS]
    return found


def least_level_at(many, place, fits):
    """The level at place of the least GIVING of so many that fits; fits tells of a GIVING whether it does."""
    # Just those fit that are at least the least one: with all others at the top, this level alone decides.
    top = ("watched",) * many
    for level in ("plain", "shot"):
        if fits(top[:place] + (level,) + top[place + 1:]):
            return level
    return "watched"


def least_giving(many, fits):
    return tuple([least_level_at(many, place, fits) for place in range(many)])


def rows_of_kind(steps, kind):
    """The ROWS that these STEPS read, or write, as they stand."""
    return [row for does, row in steps if does == kind]


def reads_row(job, row):
    return ("read", row) in job[1]


def writes_row(job, row):
    return ("write", row) in job[1]


def reads_from(one, other):
    """Whether the first JOB reads a ROW that the other one writes."""
    return any([writes_row(other, row) for row in rows_of_kind(one[1], "read")])


def steps_clash(one, other):
    """Whether two STEPS of two JOBS clash."""
    return one[1] == other[1] and "write" in (one[0], other[0])


def any_clash(some, others):
    """Whether some STEP of the first ones clashes with some of the others."""
    return any([steps_clash(one, other) for one in some for other in others])


def jobs_clash(jobs, one, other):
    """Whether the JOBS at these places clash; a JOB does not clash with itself."""
    return one != other and any_clash(jobs[one][1], jobs[other][1])


def clash_links(jobs):
    """For each place the ascending list of those whose JOBS clash with this one's."""
    places = range(len(jobs))
    return {one: [other for other in places if jobs_clash(jobs, one, other)] for one in places}


def row_name(number):
    """a, b, c .. for 0, 1, 2 ..; two letters and more behind z."""
    name = LETTERS[number % 26]
    while number >= 26:
        number = number // 26 - 1
        name = LETTERS[number % 26] + name
    return name
