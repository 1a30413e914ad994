"""A desk: requests, one a line, carried out at a Board one after another, and the replies to them."""

from nosplit.board import Board
from nosplit.errors import BadLine, Held, Late, NoNumber, NoRow, Pinched, Unfit
from nosplit.facts import is_level, is_row
from nosplit.texts import is_figures, job_line, joined, number_words, step_words

# Of each request the kinds of the words behind the first one.
KINDS = {"enter": ("level",), "read": ("integer", "row"), "write": ("integer", "row", "integer"),
         "commit": ("integer",), "drop": ("integer",), "flush": (), "fall": ("integer",), "sweep": (), "deeds": (),
         "rows": (), "versions": ("row",), "holder": ("row",), "level": ("integer",), "state": ("integer",),
         "steps": ("integer",), "workers": ("state",), "told": (), "low": (), "jobs": (), "mix": (), "needed": (),
         "straight": (), "safe": ()}


def _is_integer(word):
    """Whether the word is an integer in figures, with - ahead of those below 0 alone."""
    return is_figures(word) or (word[:1] == "-" and word != "-0" and is_figures(word[1:]))


def _is_of_kind(word, kind):
    if kind == "integer":
        return _is_integer(word)
    if kind == "row":
        return is_row(word)
    return is_level(word) if kind == "level" else word in ("open", "committed", "gone")


def is_request(thing):
    if not isinstance(thing, str):
        return False
    words = thing.split(" ")
    kinds = KINDS.get(words[0])
    if kinds is None or len(words) != len(kinds) + 1:
        return False
    return all([_is_of_kind(words[at + 1], kinds[at]) for at in range(len(kinds))])


def _numbers(found):
    return joined(number_words(found), " ")


def _number_or_none(found):
    return "-" if found is None else str(found)


def _yes_or_no(found):
    return "yes" if found else "no"


def _enter(board, told):
    return str(board.enter(told[0]))


def _read(board, told):
    return str(board.read(told[0], told[1]))


def _write(board, told):
    board.write(told[0], told[1], told[2])
    return "done"


def _commit(board, told):
    board.commit(told[0])
    return "done"


def _drop(board, told):
    board.drop(told[0])
    return "done"


def _flush(board, told):
    board.flush()
    return "done"


def _fall(board, told):
    board.fall(told[0])
    return "done"


def _sweep(board, told):
    return str(board.sweep())


def _deeds(board, told):
    return str(len(board))


def _rows(board, told):
    return joined([" ".join([row, str(value)]) for row, value in board.rows()], " / ")


def _versions(board, told):
    pairs = board.versions(told[0])
    return joined([" ".join([_number_or_none(worker), str(value)]) for worker, value in pairs], " / ")


def _holder(board, told):
    return _number_or_none(board.holder(told[0]))


def _level(board, told):
    return board.level(told[0])


def _state(board, told):
    return board.state(told[0])


def _steps(board, told):
    return joined(step_words(board.steps(told[0])), " ")


def _workers(board, told):
    return _numbers(board.workers(told[0]))


def _told(board, told):
    return _numbers(board.told())


def _low(board, told):
    return _numbers(board.too_low())


def _jobs(board, told):
    return joined([job_line(job) for job in board.jobs()], " / ")


def _mix(board, told):
    return _numbers(board.mix())


def _needed(board, told):
    return joined(board.needed(), " ")


def _straight(board, told):
    return _yes_or_no(board.straight_so_far())


def _safe(board, told):
    return _yes_or_no(board.safe_so_far())


REPLIES = {"enter": _enter, "read": _read, "write": _write, "commit": _commit, "drop": _drop, "flush": _flush,
           "fall": _fall, "sweep": _sweep, "deeds": _deeds, "rows": _rows, "versions": _versions, "holder": _holder,
           "level": _level, "state": _state, "steps": _steps, "workers": _workers, "told": _told, "low": _low,
           "jobs": _jobs, "mix": _mix, "needed": _needed, "straight": _straight, "safe": _safe}


def _told_in(words):
    """What the words behind the first one of a request tell: integers as such."""
    kinds = KINDS[words[0]]
    return [int(words[at + 1]) if kinds[at] == "integer" else words[at + 1] for at in range(len(kinds))]


def _answer(board, line):
    words = line.split(" ")
    reply = REPLIES[words[0]]
    return reply(board, _told_in(words))


def _answer_or_refusal(board, line):
    try:
        return _answer(board, line)
    except NoNumber:
        return "refused NoNumber"
    except NoRow:
        return "refused NoRow"
    except Unfit:
        return "refused Unfit"
    except Held:
        return "refused Held"
    except Late:
        return "refused Late"
    except Pinched:
        return "refused Pinched"


def replies(rows, text):
    lines = text.split("\n") if text else []
    for number in range(len(lines)):
        if not is_request(lines[number]):
            raise BadLine(number)
    board = Board(rows)
    return [_answer_or_refusal(board, line) for line in lines]
