"""What stands behind a Board: the workers, what they did, the versions of the ROWS, and the log."""

from nosplit.checks import need_number
from nosplit.errors import Held, Late, NoRow, Pinched, Unfit
from nosplit.facts import row_name
from nosplit.store import pinches


class Worker:
    """A worker: its level, its STEPS so far, the values that it wrote, the moves with which it began and committed."""

    def __init__(self, level):
        self.at_level = level
        self.done = []
        self.put = {}
        self.begun = None
        self.ended = None
        self.is_told = False
        self.is_gone = False

    def twin(self):
        other = Worker(self.at_level)
        other.done = list(self.done)
        other.put = dict(self.put)
        other.begun = self.begun
        other.ended = self.ended
        other.is_told = self.is_told
        other.is_gone = self.is_gone
        return other

    def stands(self):
        """The word for how it stands."""
        if self.is_gone:
            return "gone"
        return "open" if self.ended is None else "committed"

    def has_snapshot(self):
        """Whether it sees the versions that were there when it began."""
        return self.at_level != "plain" and self.begun is not None


class Engine:
    """The workers by their numbers, all moves, the versions of each ROW that are left, the log since the last fall."""

    def __init__(self, pairs):
        self.crew = []
        self.moves = []
        # A version is a pair of the number of its worker, None for the first one, and its value.
        self.lines = {row: [(None, value)] for row, value in pairs}
        self.entries = []

    def twin(self):
        other = Engine(())
        other.crew = [worker.twin() for worker in self.crew]
        other.moves = list(self.moves)
        other.lines = {row: list(self.lines[row]) for row in self.lines}
        other.entries = list(self.entries)
        return other

    def any_worker(self, number):
        need_number(number, len(self.crew))
        return self.crew[number]

    def open_worker(self, number):
        worker = self.any_worker(number)
        if worker.stands() != "open":
            raise Unfit()
        return worker

    def line(self, row):
        if row not in self.lines:
            raise NoRow(row)
        return self.lines[row]

    def enter(self, level):
        """A further worker; its number."""
        self.crew.append(Worker(level))
        return len(self.crew) - 1

    def who(self, word):
        """The numbers of the workers for whom this is the word."""
        return [number for number in range(len(self.crew)) if self.crew[number].stands() == word]

    def by_commit(self):
        """The numbers of the committed workers, in the order of their commits."""
        return sorted(self.who("committed"), key=lambda number: self.crew[number].ended)

    def told(self):
        return [number for number in self.who("committed") if self.crew[number].is_told]

    def untold(self):
        return [number for number in self.by_commit() if not self.crew[number].is_told]

    def holder_of(self, row):
        found = [number for number in self.who("open") if row in self.crew[number].put]
        return found[0] if found else None

    def seen(self, worker, row):
        """The version that this worker sees, or would see."""
        line = self.lines[row]
        if not worker.has_snapshot():
            return line[-1]
        there = [version for version in line if version[0] is None or self.crew[version[0]].ended < worker.begun]
        return there[-1]

    def move(self, number):
        worker = self.crew[number]
        if worker.begun is None:
            worker.begun = len(self.moves)
        self.moves.append(number)

    def read(self, number, row):
        worker = self.open_worker(number)
        self.line(row)
        if ("read", row) in worker.done or row in worker.put:
            raise Unfit()
        self.move(number)
        worker.done.append(("read", row))
        return self.seen(worker, row)[1]

    def need_not_late(self, worker, row):
        """Refuse a write of a ROW whose last version this worker could not see."""
        if worker.has_snapshot():
            for other in self.by_commit():
                if row in self.crew[other].put and self.crew[other].ended > worker.begun:
                    raise Late(other)

    def write(self, number, row, value):
        worker = self.open_worker(number)
        self.line(row)
        if row in worker.put:
            raise Unfit()
        holder = self.holder_of(row)
        if holder is not None:
            raise Held(holder)
        self.need_not_late(worker, row)
        self.move(number)
        worker.done.append(("write", row))
        worker.put[row] = value

    def jobs_of(self, numbers):
        return tuple([(self.crew[number].at_level, tuple(self.crew[number].done)) for number in numbers])

    def mix_of(self, numbers, moves):
        """Those of these moves that are of these workers, each told by its place among them."""
        return tuple([numbers.index(number) for number in moves if number in numbers])

    def commit(self, number):
        worker = self.open_worker(number)
        numbers = sorted(self.who("committed") + [number])
        if pinches(self.jobs_of(numbers), self.mix_of(numbers, self.moves + [number])):
            raise Pinched()
        self.move(number)
        worker.ended = len(self.moves) - 1
        for row in worker.put:
            self.lines[row].append((number, worker.put[row]))
        self.enter_in_log(number)

    def enter_in_log(self, number):
        """The RECORDS of a commit, and that they are put."""
        name = row_name(number)
        records = [("set", name, row) for row in self.crew[number].put] + [("end", name)]
        self.entries = self.entries + records + [("log", len(records))]

    def drop(self, number):
        worker = self.open_worker(number)
        worker.is_gone = True

    def tell(self, numbers):
        for number in numbers:
            worker = self.crew[number]
            worker.is_told = True

    def flush(self):
        self.tell(self.untold())
        self.entries = self.entries + [("flush",)]

    def fall(self, many):
        lost = self.untold()
        need_number(many, len(lost) + 1)
        self.tell(lost[:many])
        for number in self.who("open") + lost[many:]:
            worker = self.crew[number]
            worker.is_gone = True
        self.lines = {row: [version for version in self.lines[row] if not self.is_of_gone(version)]
                      for row in self.lines}
        self.entries = []

    def is_of_gone(self, version):
        return version[0] is not None and self.crew[version[0]].is_gone

    def is_of_told(self, version):
        return version[0] is not None and self.crew[version[0]].is_told

    def kept(self, row):
        """The versions of this ROW that a sweep leaves: from the last one that is told on, and what can be seen."""
        line = self.lines[row]
        told = [at for at in range(len(line)) if self.is_of_told(line[at])]
        last = told[-1] if told else 0
        readers = [self.crew[number] for number in self.who("open") if self.crew[number].has_snapshot()]
        seen = [self.seen(reader, row) for reader in readers]
        return [line[at] for at in range(len(line)) if at >= last or line[at] in seen]

    def sweep(self):
        """Throw away what is not kept; how many versions these are."""
        before = sum([len(self.lines[row]) for row in self.lines])
        self.lines = {row: self.kept(row) for row in self.lines}
        return before - sum([len(self.lines[row]) for row in self.lines])
