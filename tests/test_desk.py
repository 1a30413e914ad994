"""[22]: nosplit/desk.py: requests, replies, and the Board that stands beside them."""

import random
import unittest
from itertools import product

from nosplit import desk, texts
from nosplit.board import Board
from nosplit.errors import BadLine
from support import Case, Lists
from test_board import ROWS, do, drawn_deeds

nd = Lists(desk)

QUESTIONS = "rows told low jobs mix needed straight safe deeds".split()
BIG = "9" * 300
REQUESTS = """enter plain;enter shot;enter watched;read 0 x;read -1 abcdefgh;read 12345678901 x;write 0 x 5;write 0 x -5;write 10 y 0;commit 0;
commit -7;drop 3;flush;fall 0;fall -1;fall 10;sweep;deeds;rows;versions x;versions zz;holder x;level 0;state 7;steps 0;workers open;
workers committed;workers gone;told;low;jobs;mix;needed;straight;safe""".replace("\n", "").split(";") + ["fall " + BIG, "write 0 x -" + BIG]
NONE = """;Enter plain;enter;enter high;enter Plain;enter plain shot;read x 0;read 0;read 0 x 0;read 00 x;read 01 x;read -0 x;read - x;read --1 x;
read +1 x;read 1.0 x;read 0 X;read 0 x1;read 0 abcdefghi;read 0 -;write 0 x;write 0 x y;write 0 x 05;write x 0 1;commit;commit x;commit 0 0;
commit -01;drop;flush 0;flush now;fall;fall x;fall -;sweep 1;deed;deeds 0;rows x;versions;versions 0;versions X;holder;holder x y;level;level a;
level plain;state x;state open;steps x;workers;workers Open;workers away;workers 0;told 0;low x;jobs 0;mix 0;needed 1;straight x;safe yes;
 rows;rows ; ;  rows;read  0 x;read 0  x;read 0 x ;twin;log;len;workers open closed;none""".replace("\n", "").split(";")


def number_or_none(value):
    return "-" if value is None else str(value)


def joined(parts, between=" "):
    return between.join(parts) or "-"


def told(board, words):
    """What a question is answered, by the table of the document; None for a deed."""
    word, more = words[0], words[1:]
    if word == "deeds":
        return str(len(board))
    if word == "rows":
        return joined([f"{row} {value}" for row, value in board.rows()], " / ")
    if word == "versions":
        return joined([f"{number_or_none(worker)} {value}" for worker, value in board.versions(more[0])], " / ")
    if word == "holder":
        return number_or_none(board.holder(more[0]))
    if word in ("level", "state"):
        return getattr(board, word)(int(more[0]))
    if word == "steps":
        return joined([f"{kind} {row}" for kind, row in board.steps(int(more[0]))])
    if word == "workers":
        return joined(map(str, board.workers(more[0])))
    if word in ("told", "low", "mix"):
        return joined(map(str, getattr(board, {"low": "too_low"}.get(word, word))()))
    if word == "jobs":
        return joined(texts.jobs_text(board.jobs()).splitlines(), " / ")
    if word == "needed":
        return joined(board.needed())
    if word in ("straight", "safe"):
        return {True: "yes", False: "no"}[getattr(board, word + "_so_far")()]
    return None


def reply(board, line):
    words = line.split(" ")
    try:
        found = told(board, words)
        if found is not None:
            return found
        returned = do(board, [int(word) if word.lstrip("-").isdigit() else word for word in words])
        return "done" if returned is None else str(returned)
    except (LookupError, ValueError) as error:
        return "refused " + type(error).__name__


def drawn_lines(seed, many):
    """Deeds as lines, errors among them, with questions in between, some of what is not there."""
    chance, lines = random.Random(seed), []
    for deed in drawn_deeds(seed, many):
        lines.append(" ".join(map(str, deed)))
        worker, row = chance.randint(-1, 5), chance.choice("xyzq")
        lines.append(chance.choice(QUESTIONS + [f"versions {row}", f"holder {row}", f"level {worker}", f"state {worker}", f"steps {worker}",
                                                "workers open", "workers committed", "workers gone"]))
    return [line for line in lines if desk.is_request(line)]


class Requests(Case):
    def test_is_request(self):
        for line in REQUESTS:
            with self.subTest(line=line):
                self.assertIs(nd.is_request(line), True)
                for thing in ([line], (line,), line + " ", " " + line, line + "\n", line.upper(), line + " now", line.replace(" ", "  ") + " "):
                    self.assertIs(nd.is_request(thing), False)
        for line in NONE:
            with self.subTest(line=line):
                self.assertIs(nd.is_request(line), False)
        for thing in (None, True, 0, (), [], ("rows",), "rows\u0661", "fall \u0661", "fall \u00b2", "read\t0 x"):
            self.assertIs(nd.is_request(thing), False)

    def test_all_integers_and_words(self):
        for word in ("0", "7", "-7", "10", "-10", "100", BIG, "-" + BIG):
            self.assertIs(nd.is_request("fall " + word), True)
        for word in ("00", "-0", "-", "", "--7", "7-", "+7", "07", "-07", "0x1", "1_0", "1e3", "seven", " 7"):
            self.assertIs(nd.is_request("fall " + word), False)


class Replies(Case):
    def test_against_a_board(self):
        refusals = set()
        for seed in range(400, 460):
            lines, board = drawn_lines(seed, 24), Board(ROWS)
            wanted = [reply(board, line) for line in lines]
            refusals |= {line for line in wanted if line.startswith("refused")}
            with self.subTest(seed=seed, lines=lines):
                self.assertEqual(nd.replies(ROWS, "\n".join(lines)), wanted)
        self.assertEqual(refusals, {"refused " + name for name in "NoNumber NoRow Unfit Held Late".split()})

    def test_each_refusal(self):
        text = ("enter watched;enter watched;read 0 x;read 1 y;write 0 y 1;write 1 y 2;write 1 x 1;commit 0;commit 1;commit 2;read 1 q;"
                "read 1 y;holder q;level 9;drop 0;state 1;deeds;enter plain;write 2 z 1;commit 2;write 1 z 5;fall 7;drop 1;holder x")
        wanted = ("0;1;5;0;done;refused Held;done;done;refused Pinched;refused NoNumber;refused NoRow;refused Unfit;refused NoRow;"
                  "refused NoNumber;refused Unfit;open;7;2;done;done;refused Late;refused NoNumber;done;-")
        self.assertEqual(nd.replies(ROWS, text.replace(";", "\n")), wanted.split(";"))

    def test_nothing_at_all(self):
        self.assertEqual(nd.replies(ROWS, ""), [])
        text = "told\nlow\njobs\nmix\nneeded\nworkers open\nholder x\nstraight\nsafe\ndeeds\nenter shot\nsteps 0\ncommit 0\njobs\nneeded\nmix\nsteps 0\ntold"
        self.assertEqual(nd.replies(ROWS, text), ["-"] * 7 + ["yes", "yes", "0", "0", "-", "done", "shot", "plain", "0", "-", "-"])

    def test_forms(self):
        text = ("enter shot\nenter plain\nread 0 x\nwrite 0 x -3\nwrite 1 y 4\ncommit 1\ncommit 0\njobs\nmix\nneeded\nsteps 0\nrows\nversions x\nflush\n"
                "told\nsweep\nversions x\nlevel 1\nworkers committed\nlow")
        wanted = ["0", "1", "5", "done", "done", "done", "done", "shot read x write x / plain write y", "0 0 1 1 0", "plain plain", "read x write x",
                  "x -3 / y 4 / z -7", "- 5 / 0 -3", "done", "0 1", "2", "0 -3", "plain", "0 1", "-"]
        self.assertEqual(nd.replies(ROWS, text), wanted)

    def test_bad_lines_ahead_of_all_replies(self):
        for text, number in (("rows\nread 0  x", 1), ("rows\n", 1), ("\n", 0), ("\nrows", 0), (" ", 0), ("enter plain\nenter high\nnone", 1),
                             ("rows\nrows\nrows \nrows", 2), ("rows\r\nrows", 0), ("commit 9\nfall -1\nfall -0", 2)):
            self.refuses(BadLine(number), nd.replies, ROWS, text)
        for line in NONE:
            if line:
                self.refuses(BadLine(2), nd.replies, ROWS, "rows\nread 0 q\n" + line + "\nrows\n?")

    def test_a_line_is_carried_out_whatever_those_ahead_were_told(self):
        for lines in product(("commit 0", "enter plain", "write 0 x 1", "fall 1", "rows"), repeat=4):
            board = Board(ROWS)
            self.assertEqual(nd.replies(ROWS, "\n".join(lines)), [reply(board, line) for line in lines])

    def test_each_call_begins_anew(self):
        rows = [["x", 1]]
        for _ in range(2):
            self.assertEqual(desk.replies(rows, "enter plain\nwrite 0 x 2\ncommit 0\nrows"), ["0", "done", "done", "x 2"])
        self.assertEqual(rows, [["x", 1]])


if __name__ == "__main__":
    unittest.main()
