"""A log: RECORDS put ahead of pages, what a fall of the power leaves, and what is read from that."""

from nosplit.checks import need_number
from nosplit.errors import CanNot
from nosplit.facts import is_row, is_set_of_rows
from nosplit.values import are_unlike, ascending, is_number, is_number_below, is_tuple_of, tupled


class Log:
    """What DEEDS have done: RECORDS, MARKS, who has ended, what was put, what is lasting."""

    def __init__(self):
        self.number = 0
        self.records = []
        # Of each CELL that was set its MARK, of each writer that has ended the RECORD of that.
        self.marks = {}
        self.ends = {}
        self.high = 0
        self.low = 0
        # Of each DEED that put a page the MARKS of then; -1 stands for all pages as they were at first.
        self.images = {-1: {}}
        self.lasting = {}
        self.later = {}
        self.heard = []

    def go(self, deed):
        """Do this DEED."""
        act = ACTS[deed[0]]
        act(self, deed)
        self.number += 1

    def images_of(self, page):
        """The images of this page that can be there, ascending."""
        return [self.lasting.get(page, -1)] + self.later.get(page, [])

    def mark(self, cell, image):
        return self.images[image].get(cell, -1)


def _set(log, deed):
    _, writer, cell = deed
    log.records.append(("set", writer, cell, log.marks.get(cell, -1)))
    log.marks[cell] = len(log.records) - 1


def _end(log, deed):
    log.ends[deed[1]] = len(log.records)
    log.records.append(("end", deed[1]))


def _put(log, deed):
    log.high += deed[1]


def _flush(log, deed):
    log.low = log.high
    for page in log.later:
        log.lasting[page] = log.later[page][-1]
    log.later = {}


def _out(log, deed):
    page = deed[1]
    log.images[log.number] = {cell: log.marks[cell] for cell in log.marks}
    log.later[page] = log.later.get(page, []) + [log.number]


def _tell(log, deed):
    log.heard.append(deed[1])


ACTS = {"set": _set, "end": _end, "log": _put, "flush": _flush, "out": _out, "told": _tell}


def _log_of(deeds):
    log = Log()
    for deed in deeds:
        log.go(deed)
    return log


def _log_behind(deeds, number):
    """What the first so many DEEDS have done."""
    deeds = tupled(deeds)
    need_number(number, len(deeds) + 1)
    return _log_of(deeds[:number])


def _cells_of(pages):
    return [cell for page in pages for cell in page]


def is_pages(thing):
    """Whether thing is a tuple of one or more pages, no CELL on two."""
    if not isinstance(thing, tuple) or thing == () or not all([is_set_of_rows(page) for page in thing]):
        return False
    return are_unlike(_cells_of(thing))


def _is_free(log, writer, cell):
    """Whether nobody else has set this CELL last, or who did has ended."""
    last = log.marks.get(cell, -1)
    return last == -1 or log.records[last][1] == writer or log.records[last][1] in log.ends


def _may_set(pages, log, told):
    if len(told) != 2 or not is_row(told[0]) or told[1] not in _cells_of(pages):
        return False
    return told[0] not in log.ends and _is_free(log, told[0], told[1])


def _may_end(pages, log, told):
    return len(told) == 1 and is_row(told[0]) and told[0] not in log.ends


def _may_put(pages, log, told):
    return len(told) == 1 and is_number(told[0]) and 1 <= told[0] <= len(log.records) - log.high


def _may_flush(pages, log, told):
    return told == ()


def _may_out(pages, log, told):
    return len(told) == 1 and is_number_below(told[0], len(pages))


def _may_tell(pages, log, told):
    return len(told) == 1 and is_row(told[0]) and told[0] in log.ends


MAY = {"set": _may_set, "end": _may_end, "log": _may_put, "flush": _may_flush, "out": _may_out, "told": _may_tell}


def _may_be_done(pages, log, deed):
    """Whether this is a DEED, and what it is done only if is so."""
    if not isinstance(deed, tuple) or deed == () or not is_row(deed[0]) or deed[0] not in MAY:
        return False
    fits = MAY[deed[0]]
    return fits(pages, log, deed[1:])


def is_deeds(pages, thing):
    pages, log = tupled(pages), Log()
    if not isinstance(thing, tuple):
        return False
    for deed in thing:
        if not _may_be_done(pages, log, deed):
            return False
        log.go(deed)
    return True


def records_of(deeds):
    return tuple(_log_of(tupled(deeds)).records)


def log_ahead(deeds, number):
    log = _log_behind(deeds, number)
    return log.low, log.high


def _disks(pages, log):
    """The ascending list of the DISKS that there can be."""
    found = [()]
    for page in range(len(pages)):
        found = [images + (image,) for images in found for image in log.images_of(page)]
    return [(records, images) for records in range(log.low, log.high + 1) for images in found]


def log_disks(pages, deeds, number):
    return _disks(tupled(pages), _log_behind(deeds, number))


def _read_page(log, page, image, records):
    """The MARK that is read of each CELL of this page."""
    marks = {cell: log.mark(cell, image) for cell in page}
    stamp = max([-1] + [marks[cell] for cell in page])
    sets = [number for number in range(records) if log.records[number][0] == "set" and log.records[number][2] in marks]
    for number in sets:
        if number > stamp:
            marks[log.records[number][2]] = number
    for number in reversed(sets):
        _, writer, cell, before = log.records[number]
        if not _wins(log, writer, records):
            marks[cell] = before
    return marks


def _wins(log, writer, records):
    """Whether the end of this writer is among the first so many RECORDS."""
    return log.ends.get(writer, records) < records


def _read(pages, log, disk):
    records, images = disk
    found = []
    for page in range(len(pages)):
        marks = _read_page(log, pages[page], images[page], records)
        found = found + [(cell, marks[cell]) for cell in marks]
    return ascending(found)


def read_on(pages, deeds, disk):
    return _read(tupled(pages), _log_of(tupled(deeds)), tupled(disk))


def _due(pages, log, many):
    due = {cell: -1 for cell in _cells_of(pages)}
    for number in range(many):
        record = log.records[number]
        if record[0] == "set" and _wins(log, record[1], many):
            due[record[2]] = number
    return ascending([(cell, due[cell]) for cell in due])


def due_of(pages, deeds, many):
    return _due(tupled(pages), _log_of(tupled(deeds)), many)


def _is_right(pages, log, disk):
    if not all([_wins(log, writer, disk[0]) for writer in log.heard]):
        return False
    return _read(pages, log, disk) == _due(pages, log, disk[0])


def is_right(pages, deeds, number, disk):
    return _is_right(tupled(pages), _log_behind(deeds, number), tupled(disk))


def _first_sets(log, cell, last):
    """Pairs of each who set this CELL, up to the RECORD last, and the first RECORD of this, in their order."""
    found = {}
    for number in range(last + 1):
        record = log.records[number]
        if record[0] == "set" and record[2] == cell and record[1] not in found:
            found[record[1]] = number
    return [(writer, found[writer]) for writer in found]


def _is_bare(log, cell, mark):
    """Whether rule 1 is not kept for this CELL of an image with this MARK."""
    firsts = _first_sets(log, cell, mark)
    if not firsts or firsts[-1][1] < log.low:
        return False
    # Whoever set it ahead of the last one has ended.
    return not any([first < log.low and log.ends[writer] >= log.high for writer, first in firsts[:-1]])


def _bare_cells(pages, log):
    told = [(page, image) for page in range(len(pages)) for image in log.images_of(page)]
    return tuple([(page, image, cell) for page, image in told for cell in pages[page]
                  if _is_bare(log, cell, log.mark(cell, image))])


def bare_cells(pages, deeds, number):
    return _bare_cells(tupled(pages), _log_behind(deeds, number))


def _bare_told(log):
    return ascending([writer for writer in log.heard if log.ends[writer] >= log.low])


def bare_told(deeds, number):
    return _bare_told(_log_behind(deeds, number))


def _wrong_disk(pages, log):
    """The least DISK that there can be and that is not RIGHT; None if there is none."""
    # Where both rules are kept all DISKS are RIGHT: they need not be gone through.
    if _bare_cells(pages, log) or _bare_told(log):
        for disk in _disks(pages, log):
            if not _is_right(pages, log, disk):
                return disk
    return None


def breach(pages, deeds):
    pages, deeds = tupled(pages), tupled(deeds)
    for number in range(len(deeds) + 1):
        disk = _wrong_disk(pages, _log_of(deeds[:number]))
        if disk is not None:
            return number, disk
    return None


def _is_disk(pages, log, thing):
    """Whether thing is a DISK that there can be."""
    if not is_tuple_of(thing, 2) or not is_number(thing[0]) or not log.low <= thing[0] <= log.high:
        return False
    images = thing[1]
    if not is_tuple_of(images, len(pages)) or not all([is_number(image) for image in images]):
        return False
    return all([images[page] in log.images_of(page) for page in range(len(pages))])


def is_breach(pages, deeds, thing):
    pages, deeds = tupled(pages), tupled(deeds)
    if not is_tuple_of(thing, 2) or not is_number_below(thing[0], len(deeds) + 1):
        return False
    log = _log_of(deeds[:thing[0]])
    return _is_disk(pages, log, thing[1]) and not _is_right(pages, log, thing[1])


def log_first(pages, deeds, page):
    pages, log = tupled(pages), _log_of(tupled(deeds))
    need_number(page, len(pages))
    # More can be put at any time: who set a CELL ahead of the last one can have the end among what is put.
    firsts = [_first_sets(log, cell, log.marks[cell])[-1][1] for cell in pages[page] if cell in log.marks]
    return max([0] + [first + 1 for first in firsts])


def tell_first(deeds, writer):
    log = _log_of(tupled(deeds))
    if writer not in log.ends:
        raise CanNot()
    return log.ends[writer] + 1
