"""Texts of JOBS, MIXES, GIVINGS, SPLITS and OUTCOMES, and what is read of such texts."""

from nosplit.errors import BadLine
from nosplit.facts import is_level, is_row
from nosplit.jobs import is_job
from nosplit.values import are_unlike

FIGURES = "0123456789"


def is_figures(word):
    """Whether the word is a number from 0 on, without a needless 0 ahead."""
    if word == "" or not all([sign in FIGURES for sign in word]):
        return False
    return word == "0" or word[0] != "0"


def joined(words, between):
    """The words with this between them; - for nothing at all."""
    return between.join(words) if words else "-"


def number_words(numbers):
    return [str(number) for number in numbers]


def step_words(steps):
    """What is done and the ROW, of each STEP."""
    return [word for step in steps for word in step]


def job_line(job):
    level, steps = job
    return " ".join([level] + step_words(steps))


def _text_of(lines):
    return "".join([line + "\n" for line in lines])


def jobs_text(jobs):
    return _text_of([job_line(job) for job in jobs])


def mix_text(mix):
    return _text_of([joined(number_words(mix), " ")])


def levels_text(levels):
    return _text_of([joined(levels, " ")])


def split_text(split):
    head, place, others = split
    return _text_of([" ".join(number_words([head, place] + list(others)))])


def _seen_word(place):
    return "-" if place is None else str(place)


def outcome_text(outcome):
    seen, rows = outcome
    lines = [" ".join(["sees"] + [_seen_word(place) for place in told]) for told in seen]
    return _text_of(lines + [" ".join(["row", row] + number_words(places)) for row, places in rows])


def _lines_of(text):
    """The lines of a text; a line break at its end begins no further one."""
    if text == "":
        return []
    return (text[:-1] if text.endswith("\n") else text).split("\n")


def _job_of(line):
    """The JOB of this line; None if it is of none."""
    words = line.split(" ")
    # A word left alone at the end makes no STEP, and so no JOB.
    job = (words[0], tuple([tuple(words[at:at + 2]) for at in range(1, len(words), 2)]))
    return job if is_job(job) else None


def read_jobs(text):
    lines, found = _lines_of(text), []
    for number in range(len(lines)):
        job = _job_of(lines[number])
        if job is None:
            raise BadLine(number)
        found.append(job)
    return tuple(found)


def _only_line(text, fits):
    """The words of the only line of this text, none for -; fits tells whether these words may be there."""
    lines = _lines_of(text)
    if not lines:
        raise BadLine(0)
    words = [] if lines[0] == "-" else lines[0].split(" ")
    if not fits(words):
        raise BadLine(0)
    if len(lines) > 1:
        raise BadLine(1)
    return words


def _numbers_of(words):
    return tuple([int(word) for word in words])


def _are_figures(words):
    return all([is_figures(word) for word in words])


def _are_levels(words):
    return all([is_level(word) for word in words])


def _are_of_split(words):
    return len(words) > 2 and _are_figures(words) and are_unlike(words[2:])


def read_mix(text):
    return _numbers_of(_only_line(text, _are_figures))


def read_levels(text):
    return tuple(_only_line(text, _are_levels))


def read_split(text):
    numbers = _numbers_of(_only_line(text, _are_of_split))
    return numbers[0], numbers[1], numbers[2:]


def _seen_of(words):
    return tuple([None if word == "-" else int(word) for word in words])


def _are_seen(words):
    return all([word == "-" or is_figures(word) for word in words])


def _can_be_rows(words, rows):
    """Whether these words tell a ROW, behind all of those in rows, and its places."""
    if len(words) < 2 or not is_row(words[0]) or (rows and rows[-1][0] >= words[0]):
        return False
    return _are_figures(words[1:]) and are_unlike(words[1:])


def read_outcome(text):
    lines, seen, rows = _lines_of(text), [], []
    for number in range(len(lines)):
        words = lines[number].split(" ")
        if words[0] == "sees" and not rows and _are_seen(words[1:]):
            seen.append(_seen_of(words[1:]))
        elif words[0] == "row" and _can_be_rows(words[1:], rows):
            rows.append((words[1], _numbers_of(words[2:])))
        else:
            raise BadLine(number)
    return tuple(seen), tuple(rows)
