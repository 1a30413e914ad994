"""What the tests share: exact errors, refusals of numbers and ROWS, families of small JOBS."""

import inspect
import random
import unittest
from itertools import combinations_with_replacement, permutations

import oracle
import samples
from nosplit.errors import NoNumber, NoRow


class Lists:
    """A module of the package; every other call of each of its functions gets lists for tuples, but for a thing."""

    def __init__(self, module):
        for name, function in vars(module).items():
            if inspect.isfunction(function) and function.__module__ == module.__name__ and not name.startswith("_"):
                setattr(self, name, self.at_times_with_lists(function))

    def at_times_with_lists(self, function):
        names, count = list(inspect.signature(function).parameters), [0]

        def call(*arguments):
            count[0] += 1
            if count[0] % 2:
                return function(*arguments)
            return function(*[value if name == "thing" else samples.listed_deep(value)
                              for name, value in zip(names, arguments)])

        call.__name__ = function.__name__
        return call


class Case(unittest.TestCase):
    def refuses(self, wanted, function, *arguments, **by_name):
        """The call raises just this error, with just these values."""
        with self.subTest(function=function.__name__, arguments=arguments, wanted=vars(wanted)):
            with self.assertRaises(type(wanted)) as caught:
                function(*arguments, **by_name)
            self.assertIs(type(caught.exception), type(wanted))
            self.assertEqual(vars(caught.exception), vars(wanted))

    def no_numbers(self, function, many, call):
        """Each number that tells none of so many is refused; call tells the arguments for a number."""
        for number in (-1, -many - 1, many, many + 1, 10 ** 9, -10 ** 9, True, False):
            self.refuses(NoNumber(number), function, *call(number))

    def no_rows(self, function, call):
        for row in ("q", "xx", "abcdefgh"):
            self.refuses(NoRow(row), function, *call(row))


def is_lean(steps):
    jobs = oracle.at_levels(steps, ("plain",) * len(steps))
    return all(any(oracle.clash(step, other) for at, line in enumerate(steps) if at != place for other in line)
               for place in range(len(jobs)) for step in steps[place])


def family(rows, most, many):
    """STEPS of so many JOBS over these ROWS, none idle, none without STEPS, one of those alike but for names."""
    found = {}
    for steps in combinations_with_replacement(oracle.steps_of_rows(rows, most), many):
        if all(steps) and is_lean(steps):
            found.setdefault(min(lettered(turn) for turn in permutations(steps)), True)
    return sorted(found)


def lettered(steps):
    names = {}
    return tuple(tuple((kind, names.setdefault(row, "abcdefgh"[len(names)])) for kind, row in line) for line in steps)


def small_jobs():
    """JOBS of many shapes, few enough to go through all their MIXES many times."""
    found = [(), (("shot", ()),), (("plain", ()), ("watched", ()), ("shot", ())),
             (("plain", (("read", "a"), ("write", "a"), ("write", "b"))),)]
    for at, steps in enumerate(family("ab", 2, 2)):
        found.append(oracle.at_levels(steps, oracle.all_levels(2)[at % 9]))
        found.append(oracle.at_levels(steps[::-1], ("watched", "watched")))
    for at, steps in enumerate(family("abc", 3, 2)):
        if at % 8 == 0:
            found.append(oracle.at_levels(steps, oracle.all_levels(2)[at // 8 % 9]))
    for at, steps in enumerate(family("ab", 2, 3)):
        if at % 16 == 3:
            found.append(oracle.at_levels(steps, oracle.all_levels(3)[at % 27]))
    found.append((("watched", (("read", "a"),)), ("shot", ()), ("plain", (("write", "a"), ("write", "zz")))))
    return found


def random_line(chance, rows, most):
    """STEPS of a JOB: each next one that fits, till there are as many as chance wants."""
    wanted, line = chance.randint(0 if chance.random() < 0.1 else 1, most), ()
    for _ in range(4 * most):
        step = (chance.choice(("read", "write")), chance.choice(rows))
        if len(line) < wanted and oracle.is_line(line + (step,)):
            line = line + (step,)
    return line


def random_jobs(seed, count, rows, many, most):
    """So many times so many JOBS of at most so many STEPS over these ROWS: the same ones for a seed each time."""
    chance = random.Random(seed)
    return [tuple((chance.choice(oracle.LEVELS), random_line(chance, rows, most)) for _ in range(many))
            for _ in range(count)]
