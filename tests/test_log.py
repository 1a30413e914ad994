"""[18]: nosplit/log.py, and its guarantee over all falls."""

import random
import unittest
from itertools import product

from nosplit import log
from nosplit.errors import CanNot, NoNumber
from support import Case, Lists

nl = Lists(log)

BOOK = (("c", "d"), ("e",))
WORK = (("set", "ann", "c"), ("set", "ann", "e"), ("log", 2), ("flush",), ("end", "ann"), ("set", "bob", "c"), ("out", 0), ("log", 1))
PAGES = [(("a",),), (("a", "b"),), (("a",), ("b",)), (("a",), (), ("b", "c"))]


def cells(pages):
    return [cell for page in pages for cell in page]


def records(deeds):
    """RECORDS of a set with what the CELL had ahead, and of an end."""
    found, marks = [], {}
    for deed in deeds:
        if deed[0] == "set":
            found.append(deed + (marks.get(deed[2], -1),))
            marks[deed[2]] = len(found) - 1
        elif deed[0] == "end":
            found.append(deed)
    return found


def end_of(deeds, writer):
    """The number of the RECORD of its end; None if it has not ended."""
    made = records(deeds)
    return made.index(("end", writer)) if ("end", writer) in made else None


def high(deeds):
    return sum(deed[1] for deed in deeds if deed[0] == "log")


def low(deeds):
    flushes = [at for at, deed in enumerate(deeds) if deed[0] == "flush"]
    return high(deeds[:flushes[-1]]) if flushes else 0


def images(deeds, page):
    """The last one put ahead of the last flush, or any put since."""
    flushes = [at for at, deed in enumerate(deeds) if deed[0] == "flush"]
    outs = [at for at, deed in enumerate(deeds) if deed == ("out", page)]
    last = flushes[-1] if flushes else 0
    ahead = [at for at in outs if at < last]
    return [ahead[-1] if ahead else -1] + [at for at in outs if at >= last]


def marks_of(deeds, image):
    """The MARKS that all CELLS had when this DEED was done."""
    marks = {}
    for number, record in enumerate(records(deeds[:max(0, image)])):
        if record[0] == "set":
            marks[record[2]] = number
    return marks


def disks(pages, deeds):
    return sorted((many, chosen) for many in range(low(deeds), high(deeds) + 1)
                  for chosen in product(*[images(deeds, page) for page in range(len(pages))]))


def read(pages, deeds, disk):
    many, chosen = disk
    there = records(deeds)[:many]
    winners = {record[1] for record in there if record[0] == "end"}
    told = {}
    for page, image in zip(pages, chosen):
        marks = {cell: marks_of(deeds, image).get(cell, -1) for cell in page}
        stamp = max(list(marks.values()) + [-1])
        for number, record in enumerate(there):
            if record[0] == "set" and record[2] in page and number > stamp:
                marks[record[2]] = number
        for record in reversed(there):
            if record[0] == "set" and record[2] in page and record[1] not in winners:
                marks[record[2]] = record[3]
        told.update(marks)
    return tuple(sorted(told.items()))


def due(pages, deeds, many):
    there = records(deeds)[:many]
    winners = {record[1] for record in there if record[0] == "end"}
    told = {cell: -1 for cell in cells(pages)}
    for number, record in enumerate(there):
        if record[0] == "set" and record[1] in winners:
            told[record[2]] = number
    return tuple(sorted(told.items()))


def is_right(pages, deeds, disk):
    winners = {record[1] for record in records(deeds)[:disk[0]] if record[0] == "end"}
    heard = {deed[1] for deed in deeds if deed[0] == "told"}
    return read(pages, deeds, disk) == due(pages, deeds, disk[0]) and heard <= winners


def bare_cells(pages, deeds):
    found, made = [], records(deeds)
    for page, page_cells in enumerate(pages):
        for image in images(deeds, page):
            for cell in page_cells:
                mark = marks_of(deeds, image).get(cell, -1)
                if mark == -1:
                    continue
                setters = [made[number][1] for number in range(mark + 1) if made[number][0] == "set" and made[number][2] == cell]
                firsts = {writer: min(number for number in range(mark + 1) if made[number][:3] == ("set", writer, cell))
                          for writer in setters}
                w = made[mark][1]
                if firsts[w] >= low(deeds) and not any(firsts[v] < low(deeds) and end_of(deeds, v) >= high(deeds)
                                                       for v in firsts if v != w):
                    found.append((page, image, cell))
    return tuple(sorted(found))


def bare_told(deeds):
    return tuple(sorted({deed[1] for deed in deeds if deed[0] == "told" and end_of(deeds, deed[1]) >= low(deeds)}))


def may_come(pages, deeds, deed):
    """Whether this DEED may be done behind these."""
    word = deed[0]
    if word == "set":
        made = records(deeds)
        last = [record[1] for record in made if record[0] == "set" and record[2] == deed[2]][-1:]
        return deed[2] in cells(pages) and end_of(deeds, deed[1]) is None and all(
            writer == deed[1] or end_of(deeds, writer) is not None for writer in last)
    if word == "end":
        return end_of(deeds, deed[1]) is None
    if word == "log":
        return 1 <= deed[1] <= len(records(deeds)) - high(deeds)
    if word == "out":
        return 0 <= deed[1] < len(pages)
    return word == "flush" or end_of(deeds, deed[1]) is not None


def every_deed(pages):
    found = [("set", writer, cell) for writer in "uv" for cell in cells(pages)]
    found += [(word, writer) for writer in "uv" for word in ("end", "told")]
    return found + [("log", many) for many in (1, 2)] + [("flush",)] + [("out", page) for page in range(len(pages))]


def all_deeds(pages, most, some=None):
    """All DEEDS, at most so many, out of some."""
    found, layer = [()], [()]
    for _ in range(most):
        layer = [deeds + (deed,) for deeds in layer for deed in some or every_deed(pages) if may_come(pages, deeds, deed)]
        found += layer
    return found


def drawn(seed, count, most):
    """Pages, and DEEDS of them, drawn."""
    chance, found = random.Random(seed), []
    for at in range(count):
        pages, deeds = PAGES[at % len(PAGES)], ()
        for _ in range(chance.randint(1, most)):
            deeds += (chance.choice([deed for deed in every_deed(pages) if may_come(pages, deeds, deed)]),)
        found.append((pages, deeds))
    return found


# What leads to images of what is not lasting, in few DEEDS.
FEW = [("set", "u", "a"), ("set", "v", "a"), ("end", "u"), ("log", 1), ("flush",), ("out", 0)]
SOME = ([(PAGES[0], deeds) for deeds in all_deeds(PAGES[0], 4)[::5]] + [(PAGES[0], deeds) for deeds in all_deeds(PAGES[0], 7, FEW)[::37]]
        + drawn(51, 150, 12) + [(BOOK, WORK), (BOOK, ())])


class Deeds(Case):
    def test_is_deeds(self):
        for pages in PAGES[:3]:
            every = every_deed(pages)
            for deeds in all_deeds(pages, 3)[::7]:
                self.assertIs(nl.is_deeds(pages, deeds), True)
                for deed in every:
                    self.assertIs(nl.is_deeds(pages, deeds + (deed,)), may_come(pages, deeds, deed))

    def test_what_are_no_deeds(self):
        made = (("set", "u", "c"), ("end", "u"))
        for deed in (None, [], ["flush"], (), "flush", ("flush", 0), ("flush", ()), ("set", "u"), ("set", "u", "x"), ("set", "U", "c"),
                     ("set", "", "c"), ("set", "abcdefghi", "c"), ("set", None, "c"), ("set", "v", None), ("set", "v", ("c",)),
                     ("set", "v", "c", 0), ("end",), ("end", "V"), ("end", ("v",)), ("end", "u"), ("end", "v", 0), ("log", 0), ("log", -1),
                     ("log", True), ("log", 3), ("log", "1"), ("log",), ("out", 2), ("out", -1), ("out", True), ("out", "c"), ("out",),
                     ("told", "v"), ("told", None), ("told",), ("told", "u", 0), ("told", ["u"]), ("end", ["v"]), ("set", ["v"], "c"), ("set", "v", ["c"]), ("read", "u"), (0, "u"), ((), "u"), ("set", "u", "c")):
            self.assertIs(nl.is_deeds(BOOK, made + (deed,)), False)
        for deed in (("flush",), ("set", "v", "c"), ("end", "v"), ("log", 1), ("log", 2), ("out", 0), ("out", 1), ("told", "u")):
            self.assertIs(nl.is_deeds(BOOK, made + (deed,)), True)
        for thing in (None, 0, [], [("flush",)], "flush", (["flush"],)):
            self.assertIs(nl.is_deeds(BOOK, thing), False)
        self.assertIs(nl.is_deeds(((),), (("out", 0), ("end", "a"), ("set", "b", "c"))), False)
        # One who has ended sets nothing more; another one may, as soon as who set the CELL last has ended.
        self.assertIs(nl.is_deeds(BOOK, made + (("set", "u", "d"),)), False)
        self.assertIs(nl.is_deeds(BOOK, made[:1] + (("set", "v", "c"),)), False)
        self.assertIs(nl.is_deeds(BOOK, made[:1] + (("set", "u", "c"), ("set", "v", "d"))), True)

    def test_records(self):
        for pages, deeds in SOME:
            self.assertEqual(nl.records_of(deeds), tuple(records(deeds)))
            for number in range(len(deeds) + 1):
                self.assertEqual(nl.log_ahead(deeds, number), (low(deeds[:number]), high(deeds[:number])))

    def test_numbers(self):
        for function, call in ((nl.log_ahead, lambda number: (WORK, number)), (nl.bare_told, lambda number: (WORK, number)),
                               (nl.log_disks, lambda number: (BOOK, WORK, number)),
                               (nl.bare_cells, lambda number: (BOOK, WORK, number)),
                               (nl.is_right, lambda number: (BOOK, WORK, number, (0, (-1, -1))))):
            self.no_numbers(function, len(WORK) + 1, call)
        self.no_numbers(nl.log_first, 2, lambda page: (BOOK, WORK, page))
        self.refuses(NoNumber(1), nl.log_ahead, (), 1)

    def test_without_deeds(self):
        self.assertEqual((nl.records_of(()), nl.log_ahead((), 0), nl.bare_told((), 0)), ((), (0, 0), ()))
        self.assertEqual((nl.log_disks(BOOK, (), 0), nl.bare_cells(BOOK, (), 0), nl.breach(BOOK, ())), ([(0, (-1, -1))], (), None))
        self.assertEqual(nl.read_on(BOOK, (), (0, (-1, -1))), (("c", -1), ("d", -1), ("e", -1)))
        self.assertEqual(nl.due_of(BOOK, (), 0), (("c", -1), ("d", -1), ("e", -1)))
        self.assertEqual((nl.log_first(BOOK, (), 1), nl.is_right(BOOK, (), 0, (0, (-1, -1)))), (0, True))
        self.assertIs(nl.is_breach(BOOK, (), (0, (0, (-1, -1)))), False)
        self.assertEqual(nl.log_disks(((),), (("out", 0), ("out", 0)), 2), [(0, (-1,)), (0, (0,)), (0, (1,))])


class Disks(Case):
    def each(self, some=None):
        for pages, deeds in some or SOME:
            with self.subTest(pages=pages, deeds=deeds):
                yield pages, deeds

    def test_all_disks(self):
        for pages, deeds in self.each():
            for number in range(len(deeds) + 1):
                done = deeds[:number]
                every = disks(pages, done)
                self.assertEqual(nl.log_disks(pages, deeds, number), every)
                for disk in every[::1 + len(every) // 8]:
                    self.assertEqual(nl.read_on(pages, deeds, disk), read(pages, done, disk))
                    self.assertIs(nl.is_right(pages, deeds, number, disk), is_right(pages, done, disk))

    def test_due(self):
        for pages, deeds in self.each():
            for many in range(len(records(deeds)) + 1):
                self.assertEqual(nl.due_of(pages, deeds, many), due(pages, deeds, many))

    def test_both_rules(self):
        for pages, deeds in self.each():
            for number in range(len(deeds) + 1):
                self.assertEqual(nl.bare_cells(pages, deeds, number), bare_cells(pages, deeds[:number]))
                self.assertEqual(nl.bare_told(deeds, number), bare_told(deeds[:number]))

    def first_wrong(self, pages, deeds):
        """How many DEEDS have been done when some DISK is not RIGHT first; None if all always are."""
        for number in range(len(deeds) + 1):
            if not all(is_right(pages, deeds[:number], disk) for disk in disks(pages, deeds[:number])):
                return number
        return None

    def test_guarantee(self):
        wrong = 0
        for pages, deeds in self.each(SOME + [(PAGES[0], deeds) for deeds in all_deeds(PAGES[0], 6, FEW)[::3]]):
            kept = all(not bare_cells(pages, deeds[:number]) and not bare_told(deeds[:number]) for number in range(len(deeds) + 1))
            first, told = self.first_wrong(pages, deeds), nl.breach(pages, deeds)
            self.assertEqual(first is None, kept)
            self.assertEqual(told is None, kept)
            self.assertEqual(nl.breach(pages, list(deeds)), told)
            self.assertEqual(nl.is_breach(pages, deeds, told), told is not None)
            if told is not None:
                wrong += 1
                self.assertIn(told[1], disks(pages, deeds[:told[0]]))
                self.assertFalse(is_right(pages, deeds[:told[0]], told[1]))
        self.assertGreater(wrong, 100)

    def test_all_breaches(self):
        for pages, deeds in self.each(drawn(52, 20, 8)):
            top = len(deeds) + 2
            for number in range(-1, top):
                done = deeds[:max(0, number)]
                able = disks(pages, done) if 0 <= number <= len(deeds) else []
                for many in range(-1, high(deeds) + 2):
                    for chosen in product(range(-1, top, 1 + len(pages) // 2), repeat=len(pages)):
                        disk = (many, chosen)
                        wanted = disk in able and not is_right(pages, done, disk)
                        self.assertIs(nl.is_breach(pages, deeds, (number, disk)), wanted)

    def test_what_is_no_breach(self):
        right = (8, (3, (6, -1)))
        self.assertIs(nl.is_breach(BOOK, WORK, right), True)
        for thing in (None, list(right), (8, [3, (6, -1)]), (8, (3, [6, -1])), (8, (3, (6,))), (8, (3, (6, -1, -1))), (9, (3, (6, -1))),
                      (-1, (3, (6, -1))), (8, (True, (6, -1))), (8, (3, (6, None))), (8, (3, (7, -1))), (7, (3, (6, -1))), (8, None), "breach",
                      (8, (3, (6, -1)), 0), (8, (2, (6, -1)))):
            wanted = thing == (8, (2, (6, -1))) and not is_right(BOOK, WORK, (2, (6, -1)))
            self.assertIs(nl.is_breach(BOOK, WORK, thing), wanted)

    def test_numbers_alone(self):
        deeds = (("set", "u", "a"), ("out", 0), ("log", 1))
        self.assertIs(nl.is_breach(PAGES[0], deeds, (2, (0, (1,)))), True)
        for thing in ((2, (0, (True,))), (2, (False, (1,))), (True, (0, (1,))), (2, (0, ((1,),)))):
            self.assertIs(nl.is_breach(PAGES[0], deeds, thing), False)

    def test_an_image_ahead_of_its_records(self):
        deeds = (("set", "u", "a"), ("out", 0))
        self.assertEqual(nl.breach(PAGES[0], deeds), (2, (0, (1,))))
        self.assertEqual(nl.bare_cells(PAGES[0], deeds, 2), ((0, 1, "a"),))
        safe = (("set", "u", "a"), ("log", 1), ("flush",), ("out", 0))
        self.assertEqual((nl.breach(PAGES[0], safe), nl.read_on(PAGES[0], safe, (1, (3,)))), (None, (("a", -1),)))
        # One ahead that is lasting, and has not ended on the log, gives back what it had ahead.
        saved = (("set", "u", "a"), ("log", 1), ("flush",), ("end", "u"), ("set", "v", "a"), ("out", 0))
        self.assertEqual((nl.breach(PAGES[0], saved), nl.bare_cells(PAGES[0], saved, 6)), (None, ()))
        self.assertEqual(nl.bare_cells(PAGES[0], saved + (("log", 1),), 7), ((0, 5, "a"),))

    def test_told_too_early(self):
        deeds = (("end", "u"), ("log", 1), ("told", "u"), ("told", "u"), ("flush",))
        self.assertEqual([nl.bare_told(deeds, number) for number in range(6)], [(), (), (), ("u",), ("u",), ()])
        self.assertEqual(nl.breach(PAGES[0], deeds), (3, (0, (-1,))))
        self.assertEqual((nl.tell_first(deeds, "u"), nl.tell_first(deeds[:1], "u")), (1, 1))


class First(Case):
    def test_tell_first(self):
        for pages, deeds in SOME:
            for writer in ("u", "v", "ann", "bob", "q"):
                end = end_of(deeds, writer)
                if end is None:
                    self.refuses(CanNot(), nl.tell_first, deeds, writer)
                else:
                    self.assertEqual(nl.tell_first(deeds, writer), end + 1)
                    self.check_told(deeds, writer, end + 1)

    def check_told(self, deeds, writer, least):
        """With so many RECORDS lasting rule 2 is kept, with one less it is not."""
        for lasting in (least, least - 1):
            if high(deeds) <= lasting <= len(records(deeds)):
                put = (("log", lasting - high(deeds)),) if lasting > high(deeds) else ()
                more = deeds + put + (("flush",), ("told", writer))
                self.assertEqual(writer in nl.bare_told(more, len(more)), lasting < least)

    def goes_on(self, pages, deeds, page, lasting):
        """Whether rule 1 is kept for the image put now, so many RECORDS lasting, whatever comes; None if it can't be tried."""
        if high(deeds) > lasting:
            return None
        put = (("log", lasting - high(deeds)),) if lasting > high(deeds) else ()
        start = deeds + put + (("flush",), ("out", page))
        image = len(start) - 1
        rest = len(records(start)) - high(start)
        mores = [()] + [(("log", many),) for many in range(1, rest + 1)] + [(("flush",),), (("out", page),)]
        mores += [more + (("flush",),) for more in mores[1:]] + [(("end", "z"),) + more for more in mores]
        return not any((page, image) == bare[:2] for more in mores for bare in nl.bare_cells(pages, start + more, len(start + more)))

    def test_log_first(self):
        tried = 0
        for pages, deeds in SOME:
            for page in range(len(pages)):
                least = nl.log_first(pages, deeds, page)
                with self.subTest(pages=pages, deeds=deeds, page=page):
                    self.assertLessEqual(least, len(records(deeds)))
                    self.assertIn(self.goes_on(pages, deeds, page, max(least, high(deeds))), (True,))
                    if least > 0 and high(deeds) < least:
                        tried += 1
                        self.assertIs(self.goes_on(pages, deeds, page, least - 1), False)
        self.assertGreater(tried, 30)


if __name__ == "__main__":
    unittest.main()
