"""[20]: nosplit/texts.py: each reader tells what has just this text."""

import random
import unittest
from itertools import product

import oracle
from nosplit import texts
from nosplit.errors import BadLine
from support import Case, Lists, random_jobs, small_jobs

nt = Lists(texts)

BIG = 10 ** 390 + 7
READERS = {"jobs": nt.read_jobs, "mix": nt.read_mix, "levels": nt.read_levels, "split": nt.read_split, "outcome": nt.read_outcome}
WRITERS = {"jobs": nt.jobs_text, "mix": nt.mix_text, "levels": nt.levels_text, "split": nt.split_text, "outcome": nt.outcome_text}
# Words of which lines of each text are put together, right and wrong ones.
WORDS = {"jobs": ["plain", "shot", "read", "write", "x", "y", "", "X", "read x", "-"],
         "mix": ["0", "1", "10", "-", "", "01", "-1", "x", "00"],
         "levels": ["plain", "watched", "-", "", "Shot", "high"],
         "split": ["0", "1", "2", "10", "-", "", "01", "x"],
         "outcome": ["sees", "row", "x", "y", "0", "1", "-", "", "01"]}
LINES = {"jobs": ["plain", "shot read x", "watched read x write x", "plain write x read x", "", "shot "],
         "mix": ["0 1", "-", "", "0", "1  0"], "levels": ["plain", "-", "", "plain shot"], "split": ["0 1 2", "-", "", "0 1 2 2", "5 5 5"],
         "outcome": ["sees", "sees - 1", "row x 0", "row y 0 1", "row x", "", "row x 1 1", "sees x", "row xx 3"]}


def is_figures(word):
    return word == "0" or (len(word) > 0 and all(sign in "0123456789" for sign in word) and word[0] != "0")


def numbers(words):
    return tuple(int(word) for word in words)


def read_job(words):
    """The JOB of these words; None without one."""
    if words[0] not in oracle.LEVELS or len(words) % 2 == 0:
        return None
    steps = tuple(zip(words[1::2], words[2::2]))
    right = all(kind in ("read", "write") and 1 <= len(row) <= 8 and all("a" <= sign <= "z" for sign in row) for kind, row in steps)
    return (words[0], steps) if right and oracle.is_line(steps) else None


def one_line(kind, words):
    """What the only line of a text of this kind tells; None if it can not stand there."""
    if words == ["-"] and kind != "split":
        return ()
    if kind == "levels":
        return tuple(words) if all(word in oracle.LEVELS for word in words) else None
    if not all(is_figures(word) for word in words):
        return None
    if kind == "mix":
        return numbers(words)
    others = numbers(words[2:])
    return numbers(words[:2]) + (others,) if others and len(set(others)) == len(others) else None


def read_outcome(lines):
    """The pair, or the number of the first line that can not stand there."""
    seen, rows = [], []
    for number, words in enumerate(lines):
        if words[0] == "sees" and not rows and all(word == "-" or is_figures(word) for word in words[1:]):
            seen.append(tuple(None if word == "-" else int(word) for word in words[1:]))
        elif (words[0] == "row" and len(words) > 2 and words[1].isalpha() and words[1].islower() and len(words[1]) <= 8
              and (not rows or rows[-1][0] < words[1]) and all(is_figures(word) for word in words[2:])
              and len(set(words[2:])) == len(words[2:])):
            rows.append((words[1], numbers(words[2:])))
        else:
            return number
    return tuple(seen), tuple(rows)


def lines_of(text):
    lines = text.split("\n")
    return [line.split(" ") for line in (lines[:-1] if lines[-1] == "" else lines)]


def read(kind, text):
    """What the text tells, or the number of the first bad line."""
    lines = lines_of(text)
    if kind == "outcome":
        return read_outcome(lines)
    if kind == "jobs":
        jobs = [read_job(words) for words in lines]
        return jobs.index(None) if None in jobs else tuple(jobs)
    if not lines or one_line(kind, lines[0]) is None:
        return 0
    return 1 if len(lines) > 1 else one_line(kind, lines[0])


class Texts(Case):
    def check(self, kind, text):
        with self.subTest(kind=kind, text=text):
            told = read(kind, text)
            if isinstance(told, int):
                self.refuses(BadLine(told), READERS[kind], text)
            else:
                self.assertEqual(repr(READERS[kind](text)), repr(told))
                # Guarantee: the text of what is read is this text.
                self.assertEqual(WRITERS[kind](told), text if text.endswith("\n") or text == "" else text + "\n")

    def test_all_short_lines(self):
        for kind, words in WORDS.items():
            for many in range(1, 5):
                for some in list(product(words, repeat=many))[::1 if many < 4 else 3]:
                    self.check(kind, " ".join(some))
                    self.check(kind, " ".join(some) + "\n")

    def test_all_short_texts(self):
        for kind, lines in LINES.items():
            for many in range(4):
                for some in product(lines, repeat=many):
                    self.check(kind, "\n".join(some))
                    self.check(kind, "\n".join(some) + "\n")

    def test_odd_signs(self):
        for kind, lines in LINES.items():
            for line in lines:
                for odd in ("\t", "\r", "\n\n", "  ", " ", "\x0b", "\u2028", "\u0661", "\u00b2", "+", "_", "-"):
                    for at in range(len(line) + 1):
                        text = line[:at] + odd + line[at:]
                        if odd.isascii():
                            self.check(kind, text)
                        else:
                            self.refuses(BadLine(0), READERS[kind], text)

    def test_drawn_texts(self):
        chance = random.Random(81)
        for kind, words in WORDS.items():
            for _ in range(400):
                lines = [" ".join(chance.choice(words) for _ in range(chance.randint(1, 4))) if chance.random() < 0.2
                         else chance.choice(LINES[kind]) for _ in range(chance.randint(1, 5))]
                self.check(kind, "\n".join(lines))

    def test_jobs_and_back(self):
        for jobs in small_jobs() + random_jobs(82, 40, ("a", "zz", "abcdefgh"), 4, 5):
            text = nt.jobs_text(jobs)
            self.assertEqual(text.count("\n"), len(jobs))
            self.assertEqual(nt.read_jobs(text), jobs)
            self.assertEqual(nt.read_jobs(text[:-1]), jobs)

    def test_outcomes_and_back(self):
        for jobs in small_jobs()[::3]:
            for mix in oracle.mixes(jobs)[::29]:
                self.assertEqual(nt.read_mix(nt.mix_text(mix)), mix)
                outcome = oracle.outcome(jobs, mix)
                self.assertEqual(nt.read_outcome(nt.outcome_text(outcome)), outcome)

    def test_splits_and_givings_and_back(self):
        for split in product((0, 1, 12), (0, 3), ((0,), (2, 1), (7, 0, 10), tuple(range(11)))):
            self.assertEqual(nt.read_split(nt.split_text(split)), split)
        for many in range(4):
            for levels in oracle.all_levels(many):
                self.assertEqual(nt.read_levels(nt.levels_text(levels)), levels)

    def test_no_look_at_what_they_mean(self):
        self.assertEqual(nt.mix_text((7, 7, 10 ** 30)), "7 7 " + str(10 ** 30) + "\n")
        self.assertEqual(nt.split_text((3, 9, (3, 3))), "3 9 3 3\n")
        self.assertEqual(nt.outcome_text((((5,), (None, None), ()), (("b", (1,)), ("a", (4, 4))))), "sees 5\nsees - -\nsees\nrow b 1\nrow a 4 4\n")
        self.assertEqual(nt.jobs_text((("shot", (("write", "x"), ("read", "x"))),)), "shot write x read x\n")

    def test_however_many_figures(self):
        self.assertEqual(nt.read_mix(str(BIG)), (BIG,))
        self.assertEqual(nt.read_outcome("sees " + str(BIG)), (((BIG,),), ()))
        self.assertEqual(nt.read_split(f"{BIG} 0 {BIG}"), (BIG, 0, (BIG,)))

    def test_a_line_wanting(self):
        for reader in (nt.read_mix, nt.read_levels, nt.read_split):
            self.refuses(BadLine(0), reader, "")
            self.refuses(BadLine(0), reader, "\n")
            self.refuses(BadLine(0), reader, "\n\n")
        for reader in (nt.read_jobs, nt.read_outcome):
            self.refuses(BadLine(0), reader, "\n")
        self.assertEqual((nt.read_jobs(""), nt.read_outcome("")), ((), ((), ())))
        self.refuses(BadLine(0), nt.read_split, "-")
        self.refuses(BadLine(0), nt.read_split, "0 1")
        self.refuses(BadLine(1), nt.read_mix, "0\n0\n")
        self.refuses(BadLine(1), nt.read_levels, "-\n\n")
        self.refuses(BadLine(2), nt.read_outcome, "row x 0\nrow y 1\nsees")
        self.refuses(BadLine(1), nt.read_outcome, "row y 0\nrow x 1")
        self.refuses(BadLine(1), nt.read_outcome, "row y 0\nrow y 1")

    def test_what_is_barred_in_a_job(self):
        for line in ("plain read x read x", "plain write x write x", "plain write x read x", "plain read", "plain x", "read x", "Plain",
                     "plain read abcdefghi", "plain read x1", "plain  read x", " plain", "plain ", "plain see x", "plain read x,", "-"):
            self.refuses(BadLine(2), nt.read_jobs, "shot\nwatched read x write x\n" + line + "\nplain\nnone")


if __name__ == "__main__":
    unittest.main()
