"""A Board: the database with its workers, and all that is told of it."""

from nosplit.engine import Engine
from nosplit.facts import is_lesser
from nosplit.levels import least_levels
from nosplit.orders import is_straight
from nosplit.splits import safe
from nosplit.values import tupled


class Board:
    """A database with these rows, pairs of a ROW and its first value; it changes by its deeds alone."""

    def __init__(self, rows):
        self.began = tupled(rows)
        self.deeds = []
        self.engine = Engine(self.began)

    def __len__(self):
        return len(self.deeds)

    def __eq__(self, other):
        return isinstance(other, Board) and self.began == other.began and self.deeds == other.deeds

    def enter(self, level):
        self.deeds.append(("enter", level))
        return self.engine.enter(level)

    def read(self, worker, row):
        value = self.engine.read(worker, row)
        self.deeds.append(("read", worker, row))
        return value

    def write(self, worker, row, value):
        self.engine.write(worker, row, value)
        self.deeds.append(("write", worker, row, value))

    def commit(self, worker):
        self.engine.commit(worker)
        self.deeds.append(("commit", worker))

    def drop(self, worker):
        self.engine.drop(worker)
        self.deeds.append(("drop", worker))

    def flush(self):
        self.engine.flush()
        self.deeds.append(("flush",))

    def fall(self, many):
        self.engine.fall(many)
        self.deeds.append(("fall", many))

    def sweep(self):
        self.deeds.append(("sweep",))
        return self.engine.sweep()

    def twin(self):
        other = Board(self.began)
        other.deeds = list(self.deeds)
        other.engine = self.engine.twin()
        return other

    def rows(self):
        return tuple([(row, self.engine.line(row)[-1][1]) for row, value in self.began])

    def versions(self, row):
        return tuple(self.engine.line(row))

    def holder(self, row):
        self.engine.line(row)
        return self.engine.holder_of(row)

    def level(self, worker):
        return self.engine.any_worker(worker).at_level

    def steps(self, worker):
        return tuple(self.engine.any_worker(worker).done)

    def state(self, worker):
        return self.engine.any_worker(worker).stands()

    def workers(self, state):
        return tuple(self.engine.who(state))

    def told(self):
        return tuple(self.engine.told())

    def log(self):
        return tuple(self.engine.entries)

    def jobs(self):
        return self.engine.jobs_of(self.engine.who("committed"))

    def mix(self):
        return self.engine.mix_of(self.engine.who("committed"), self.engine.moves)

    def straight_so_far(self):
        return is_straight(self.jobs(), self.mix())

    def safe_so_far(self):
        return safe(self.jobs())

    def needed(self):
        return least_levels(self.jobs())

    def too_low(self):
        numbers, needed = self.engine.who("committed"), self.needed()
        return tuple([numbers[place] for place in range(len(numbers))
                      if is_lesser(self.level(numbers[place]), needed[place])])
