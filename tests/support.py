"""What the tests share: exact errors, refusals of numbers and ROWS, families of small JOBS."""

import unittest
from itertools import combinations_with_replacement, permutations

import oracle
from nosplit.errors import NoNumber, NoRow


class Case(unittest.TestCase):
    def refuses(self, wanted, function, *arguments, **by_name):
        """The call raises just this error, with just these values."""
        with self.subTest(function=function.__name__, arguments=arguments, wanted=vars(wanted)):
            with self.assertRaises(type(wanted)) as caught:
                function(*arguments, **by_name)
            self.assertIs(type(caught.exception), type(wanted))
            self.assertEqual(vars(caught.exception), vars(wanted))

    def no_numbers(self, function, many, call):
        """Each number that tells none of so many is refused; call tells the arguments for a number."""
        for number in (-1, -many - 1, many, many + 1, 10 ** 9, -10 ** 9, True, False):
            self.refuses(NoNumber(number), function, *call(number))

    def no_rows(self, function, call):
        for row in ("q", "xx", "abcdefgh"):
            self.refuses(NoRow(row), function, *call(row))


def is_lean(steps):
    jobs = oracle.at_levels(steps, ("plain",) * len(steps))
    return all(any(oracle.clash(step, other) for at, line in enumerate(steps) if at != place for other in line)
               for place in range(len(jobs)) for step in steps[place])


def family(rows, most, many):
    """STEPS of so many JOBS over these ROWS, none idle, none without STEPS, one of those alike but for names."""
    found = {}
    for steps in combinations_with_replacement(oracle.steps_of_rows(rows, most), many):
        if all(steps) and is_lean(steps):
            found.setdefault(min(lettered(turn) for turn in permutations(steps)), True)
    return sorted(found)


def lettered(steps):
    names = {}
    return tuple(tuple((kind, names.setdefault(row, "abcdefgh"[len(names)])) for kind, row in line) for line in steps)


def small_jobs():
    """JOBS of many shapes, few enough to go through all their MIXES many times."""
    found = [(), (("shot", ()),), (("plain", ()), ("watched", ()), ("shot", ())),
             (("plain", (("read", "a"), ("write", "a"), ("write", "b"))),)]
    for at, steps in enumerate(family("ab", 2, 2)):
        found.append(oracle.at_levels(steps, oracle.all_levels(2)[at % 9]))
        found.append(oracle.at_levels(steps[::-1], ("watched", "watched")))
    for at, steps in enumerate(family("abc", 3, 2)):
        if at % 8 == 0:
            found.append(oracle.at_levels(steps, oracle.all_levels(2)[at // 8 % 9]))
    for at, steps in enumerate(family("ab", 2, 3)):
        if at % 16 == 3:
            found.append(oracle.at_levels(steps, oracle.all_levels(3)[at % 27]))
    found.append((("watched", (("read", "a"),)), ("shot", ()), ("plain", (("write", "a"), ("write", "zz")))))
    return found
