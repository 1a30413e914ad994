"""MIXES: in which order the moves of JOBS are done."""

from math import comb

from nosplit.checks import need_move, need_number, need_order, need_place, need_places
from nosplit.errors import Unfit
from nosplit.runs import are_both_open, places_left, run_of, whole_moves
from nosplit.values import all_orders, are_numbers_below, count_turned, is_number_below, tupled


def _move_counts(jobs):
    """How many moves each JOB has: its STEPS and its commit."""
    return [len(job[1]) + 1 for job in jobs]


def is_mix(jobs, thing):
    jobs = tupled(jobs)
    counts = _move_counts(jobs)
    if not isinstance(thing, tuple) or len(thing) != sum(counts):
        return False
    if not are_numbers_below(thing, len(jobs)):
        return False
    return [thing.count(place) for place in range(len(jobs))] == counts


def _arrangements(counts):
    """In how many ways so many moves of each JOB can stand."""
    many, placed = 1, 0
    for count in counts:
        placed += count
        many = many * comb(placed, count)
    return many


def how_many(jobs):
    return _arrangements(_move_counts(tupled(jobs)))


def all_mixes(jobs):
    jobs = tupled(jobs)
    found, ahead = [], [()]
    while ahead:
        done = ahead.pop()
        left = places_left(jobs, done)
        if not left:
            found.append(done)
        # The least one goes on last, so that it is taken next: the list comes out ascending.
        for place in reversed(left):
            ahead.append(done + (place,))
    return found


def _less_one(counts, place):
    return counts[:place] + [counts[place] - 1] + counts[place + 1:]


def _arrangements_from(counts, place):
    """How many of the arrangements begin with a move of this JOB."""
    return _arrangements(_less_one(counts, place)) if counts[place] > 0 else 0


def nth_mix(jobs, number):
    jobs = tupled(jobs)
    counts = _move_counts(jobs)
    need_number(number, _arrangements(counts))
    mix, left = (), number
    while sum(counts) > 0:
        place = 0
        while left >= _arrangements_from(counts, place):
            left -= _arrangements_from(counts, place)
            place += 1
        mix = mix + (place,)
        counts = _less_one(counts, place)
    return mix


def number_of(jobs, mix):
    counts = _move_counts(tupled(jobs))
    number = 0
    for place in tupled(mix):
        number += sum([_arrangements_from(counts, lesser) for lesser in range(place)])
        counts = _less_one(counts, place)
    return number


def begins(jobs, mix):
    return tuple(run_of(tupled(jobs), tupled(mix)).begun)


def commits(jobs, mix):
    return tuple(run_of(tupled(jobs), tupled(mix)).ended)


def moves_of(jobs, mix, place):
    jobs, mix = tupled(jobs), tupled(mix)
    need_place(jobs, place)
    return tuple([move for move in range(len(mix)) if mix[move] == place])


def done_at(jobs, mix, move):
    jobs, mix = tupled(jobs), tupled(mix)
    need_move(mix, move)
    return run_of(jobs, mix).moves[move]


def are_beside(jobs, mix, one, other):
    jobs, mix = tupled(jobs), tupled(mix)
    need_places(jobs, (one, other))
    return one != other and are_both_open(run_of(jobs, mix), one, other)


def pairs_beside(jobs, mix):
    jobs = tupled(jobs)
    run, places = run_of(jobs, tupled(mix)), list(range(len(jobs)))
    return tuple([(one, other) for one in places for other in places
                  if one < other and are_both_open(run, one, other)])


def open_at(jobs, mix, move):
    jobs, mix = tupled(jobs), tupled(mix)
    need_move(mix, move)
    run = run_of(jobs, mix[:move])
    return tuple([place for place in range(len(jobs)) if run.begun[place] is not None and run.ended[place] is None])


def order_of(jobs, mix):
    run = run_of(tupled(jobs), tupled(mix))
    return tuple([place for place, step in run.moves if step is None])


def whole_mix(jobs, order):
    jobs, order = tupled(jobs), tupled(order)
    need_order(jobs, order)
    return whole_moves(jobs, order)


def is_whole(jobs, mix):
    jobs, mix = tupled(jobs), tupled(mix)
    run = run_of(jobs, mix)
    return all([run.ended[place] - run.begun[place] == len(jobs[place][1]) for place in range(len(jobs))])


def whole_mixes(jobs):
    jobs = tupled(jobs)
    return sorted([whole_moves(jobs, order) for order in all_orders(list(range(len(jobs))))])


def how_many_by(jobs, order):
    jobs, order = tupled(jobs), tupled(order)
    need_order(jobs, order)
    many, ahead = 1, 0
    for place in order:
        # The commit stands behind all those of the JOBS ahead, and so last of their moves and its own.
        steps = len(jobs[place][1])
        many = many * comb(ahead + steps, steps)
        ahead += steps + 1
    return many


def _can_swap(mix, move):
    return move + 1 < len(mix) and mix[move] != mix[move + 1]


def _swap(mix, move):
    return mix[:move] + (mix[move + 1], mix[move]) + mix[move + 2:]


def swapped(jobs, mix, move):
    mix = tupled(mix)
    need_move(mix, move)
    if not _can_swap(mix, move):
        raise Unfit()
    return _swap(mix, move)


def neighbours(jobs, mix):
    mix = tupled(mix)
    return sorted([_swap(mix, move) for move in range(len(mix)) if _can_swap(mix, move)])


def _targets(jobs, one, other):
    """For each move of the one MIX its number in the other one."""
    run, places = run_of(jobs, one), list(range(len(jobs)))
    numbers = {place: [move for move in range(len(other)) if other[move] == place] for place in places}
    targets = []
    for place, step in run.moves:
        targets.append(numbers[place][-1] if step is None else numbers[place][step])
    return targets


def distance(jobs, one, other):
    return count_turned(_targets(tupled(jobs), tupled(one), tupled(other)))


def swaps_between(jobs, one, other):
    targets = _targets(tupled(jobs), tupled(one), tupled(other))
    swaps = []
    for number in range(len(targets)):
        # What stands between comes behind it in the other MIX: no swap is of moves that stand rightly.
        at = targets.index(number)
        swaps = swaps + list(reversed(range(number, at)))
        targets = targets[:number] + [number] + targets[number:at] + targets[at + 1:]
    return tuple(swaps)


def is_swaps_between(jobs, one, other, thing):
    jobs, mix, other = tupled(jobs), tupled(one), tupled(other)
    if not isinstance(thing, tuple) or len(thing) != distance(jobs, mix, other):
        return False
    for move in thing:
        if not is_number_below(move, len(mix)) or not _can_swap(mix, move):
            return False
        mix = _swap(mix, move)
    return mix == other


def part_mix(jobs, mix, some):
    jobs, mix, some = tupled(jobs), tupled(mix), tupled(some)
    need_places(jobs, some)
    return tuple([some.index(place) for place in mix if place in some])
