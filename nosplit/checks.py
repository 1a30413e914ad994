"""The refusals that functions share: NoNumber, NoRow, and Unfit for an order."""

from nosplit.errors import NoNumber, NoRow, Unfit
from nosplit.values import is_number_below, is_turn


def need_number(number, many):
    if not is_number_below(number, many):
        raise NoNumber(number)


def need_place(jobs, place):
    need_number(place, len(jobs))


def need_places(jobs, places):
    for place in places:
        need_place(jobs, place)


def need_step(jobs, place, step):
    need_place(jobs, place)
    need_number(step, len(jobs[place][1]))


def need_move(mix, move):
    need_number(move, len(mix))


def need_row(jobs, row):
    for job in jobs:
        if ("read", row) in job[1] or ("write", row) in job[1]:
            return
    raise NoRow(row)


def need_order(jobs, order):
    """An order is no set: NoNumber is not for its numbers, so all that is wrong with it is Unfit."""
    if not is_turn(order, len(jobs)):
        raise Unfit()
