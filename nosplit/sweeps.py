"""HISTORIES of readers and commits: which versions are wanted, and which can be thrown away."""

from nosplit.errors import NoNumber
from nosplit.facts import is_row, is_set_of_rows, rows_of_kind
from nosplit.runs import run_of
from nosplit.values import are_tuples_of, ascending, is_number, is_number_below, is_tuple_of, tupled


class Past:
    """What EVENTS have left: how many commits, who is open since how many of them, the versions of each ROW."""

    def __init__(self):
        self.commits = 0
        # Who opened first stands first: whoever closes leaves it, and comes behind all others if it opens again.
        self.since = {}
        self.lines = {}

    def go(self, event):
        word, told = event
        if word == "open":
            self.since[told] = self.commits
        elif word == "shut":
            del self.since[told]
        else:
            self.commits += 1
            for row in told:
                self.lines[row] = self.line(row) + [self.commits]

    def line(self, row):
        """The numbers of the versions of this ROW, ascending."""
        return self.lines.get(row, [0])


def _past_of(history):
    past = Past()
    for event in history:
        past.go(event)
    return past


def _is_event(thing):
    if not is_tuple_of(thing, 2):
        return False
    word, told = thing
    if word == "commit":
        return is_set_of_rows(told) and told != ()
    return word in ("open", "shut") and is_number(told) and told >= 0


def _may_come(past, event):
    """Whether nobody opens who is open, and who closes is open."""
    word, told = event
    if word == "commit":
        return True
    return (told in past.since) == (word == "shut")


def _can_follow(past, events):
    """Whether these are EVENTS that can come one behind another; past goes on with them as long as they can."""
    if not isinstance(events, tuple):
        return False
    for event in events:
        if not _is_event(event) or not _may_come(past, event):
            return False
        past.go(event)
    return True


def is_history(thing):
    return _can_follow(Past(), thing)


def how_many_commits(history):
    return _past_of(tupled(history)).commits


def open_readers(history):
    return ascending(list(_past_of(tupled(history)).since))


def _past_with(history, number):
    """What the HISTORY leaves; refused if this reader is not open at its end."""
    past = _past_of(tupled(history))
    if not is_number(number) or number not in past.since:
        raise NoNumber(number)
    return past


def opened_at(history, number):
    return _past_with(history, number).since[number]


def versions_of(history, row):
    return tuple(_past_of(tupled(history)).line(row))


def _seen(past, reader, row):
    """The number of the version that this open reader sees."""
    return [version for version in past.line(row) if version <= past.since[reader]][-1]


def seen_version(history, number, row):
    return _seen(_past_with(history, number), number, row)


def _past_with_version(history, row, number):
    """What the HISTORY leaves; refused if the ROW has no such version."""
    past = _past_of(tupled(history))
    if not is_number(number) or number not in past.line(row):
        raise NoNumber(number)
    return past


def _seers(past, row, number):
    return [reader for reader in sorted(list(past.since)) if _seen(past, reader, row) == number]


def seers(history, row, number):
    return tuple(_seers(_past_with_version(history, row, number), row, number))


def _wanted(past, row):
    """The versions that are wanted: the last one, and those that somebody who is open sees."""
    return ascending(past.line(row)[-1:] + [_seen(past, reader, row) for reader in past.since])


def wanted(history, row):
    return _wanted(_past_of(tupled(history)), row)


def _rows_in(past):
    return sorted(list(past.lines))


def spare(history):
    past = _past_of(tupled(history))
    kept = {row: _wanted(past, row) for row in _rows_in(past)}
    return tuple([(row, version) for row in kept for version in past.line(row) if version not in kept[row]])


def _new_reader(past):
    """The least number that no open reader has."""
    return min([number for number in range(len(past.since) + 1) if number not in past.since])


def use_of(history, row, number):
    past = _past_with_version(history, row, number)
    able = _seers(past, row, number)
    if able:
        return (), able[0]
    if number != past.line(row)[-1]:
        return None
    reader = _new_reader(past)
    return (("open", reader),), reader


def is_use_of(history, row, number, thing):
    past = _past_with_version(history, row, number)
    if not is_tuple_of(thing, 2) or not _can_follow(past, thing[0]) or not is_number(thing[1]):
        return False
    return thing[1] in past.since and _seen(past, thing[1], row) == number


def freed_by(history, number):
    past = _past_with(history, number)
    before = [(row, version) for row in _rows_in(past) for version in _wanted(past, row)]
    past.go(("shut", number))
    return tuple([(row, version) for row, version in before if version not in _wanted(past, row)])


def fewest_to_shut(history, row, number):
    past = _past_with_version(history, row, number)
    return None if number == past.line(row)[-1] else tuple(_seers(past, row, number))


def _kept_by_oldest(past, row):
    line = past.line(row)
    if not past.since:
        return line[-1:]
    oldest = list(past.since)[0]
    return line[line.index(_seen(past, oldest, row)):]


def kept_by_oldest(history, row):
    return tuple(_kept_by_oldest(_past_of(tupled(history)), row))


def needless(history):
    past = _past_of(tupled(history))
    # What is wanted is kept by the oldest one, too.
    return sum([len(_kept_by_oldest(past, row)) - len(_wanted(past, row)) for row in _rows_in(past)])


def _is_sweep(history, sweep):
    """Whether this triple takes a version that is there then and not wanted then."""
    many, row, number = sweep
    if not is_number_below(many, len(history) + 1):
        return False
    past = _past_of(history[:many])
    return number in past.line(row) and number not in _wanted(past, row)


def _first_wrong(history, sweeps):
    taken = {}
    for at in range(len(sweeps)):
        if sweeps[at][1:] in taken or not _is_sweep(history, sweeps[at]):
            return at
        taken[sweeps[at][1:]] = True
    return None


def is_sweeps(history, thing):
    if not are_tuples_of(thing, 3):
        return False
    if not all([is_number(many) and is_row(row) and is_number(number) for many, row, number in thing]):
        return False
    return _first_wrong(tupled(history), thing) is None


def first_wrong(history, sweeps):
    return _first_wrong(tupled(history), tupled(sweeps))


def most_kept(history):
    history = tupled(history)
    rows, past = _rows_in(_past_of(history)), Past()
    most = len(rows)
    for event in history:
        past.go(event)
        most = max(most, sum([len(_wanted(past, row)) for row in rows]))
    return most


def history_of(jobs, mix):
    jobs = tupled(jobs)
    run, found = run_of(jobs, tupled(mix)), []
    for move in range(len(run.moves)):
        place = run.moves[move][0]
        raised, rows = jobs[place][0] != "plain", ascending(rows_of_kind(jobs[place][1], "write"))
        if raised and run.begun[place] == move:
            found.append(("open", place))
        if raised and run.ended[place] == move:
            found.append(("shut", place))
        if rows and run.ended[place] == move:
            found.append(("commit", rows))
    return tuple(found)
