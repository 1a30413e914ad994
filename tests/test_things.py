"""[2]: each function with a parameter thing tells True of what is stated, False of all else, and never fails."""

import unittest

import interface
import samples
from test_interface import kinds

NEST = "deep"
for _ in range(11):
    NEST = (NEST,)

ZOO = [None, True, False, 0, 1, -1, 2, 10 ** 40, "", "x", "read", "plain", "X", "a" * 500, "-", (), [], ((),), [[]],
       (None,), (True,), (False,), (0,), (1,), (-1,), ("x",), ((), ()), ([], []), (0, 1), (1, 0), [0, 1], (0, True),
       ("read", "x"), ["read", "x"], ("read", "X"), ("read", ""), ("read", "abcdefghi"), ("read", "x1"),
       ("read", "x", "y"), ("read",), ("write", None), ("read", True), (None, "x"), (("read",), "x"), ("see", "x"),
       (["read"], "x"), ("plain", ()), ("plain", []), ["plain", ()], ("high", ()), (True, ()), ("plain", None),
       ("plain", ((),)), ("plain", ("read", "x")), ("plain", (("read", "x"), None)), ("plain", (), ()),
       ("plain", (("read", "x"), ("read", "x"))), ("plain", (("write", "x"), ("write", "x"))),
       ("plain", (("write", "x"), ("read", "x"))), (("plain", ()),), (("plain", ()), None), (("plain", ()), ()),
       (0, 0, (1,)), (0, 0, ()), (0, 0, (0,)), (0, 0, (1, 1)), (0, 0, [1]), (0, 0, 1), (0, 0, None), (0, 0, (None,)),
       (0, 0, (1,), 0), ("0", 0, (1,)), (None, 0, (1,)), (0, None, (1,)), (99, 0, (1,)), (0, 99, (1,)), (0, 0, (99,)),
       (0, -1, (1,)), (-1, 0, (1,)), (0, 0, (-1,)), ((0, 0),), ((0, 0), (0, 0)), ((1, 0), (0, 0)), ((0, 2),), ((0,),),
       ((0, 0, 0),), ((0, None),), (None, (0, 0)), ((0, True),), [(0, 0)], ("shot",), ("shot", None), (True, "shot"),
       NEST, (NEST, NEST), ("read", NEST), ("plain", NEST), (0, 0, NEST), (0, 1, 0, NEST), tuple(range(3000)),
       ("ring", (0, 1)), ("ring", NEST), ("ring",), ("late", 0, "a"), ("late", NEST, "a"), ("late", 0, NEST), ("range", 0, 1),
       ("plain", (("range", 0, 1),)), (("plain", (("range", 0, 1), ("write", 1))),), (("plain", (("range", NEST, 1),)),),
       ("plain", (), (), ()), ("plain", (("x", "y"),), (("read", "x"),)), ("plain", NEST, NEST), (0, ("a",)), ((0, ("a",)),),
       ((0, (NEST,)),), ((NEST, ("a",)),), (((0, ("a",)),), (0, 0, (1,))), (((0, ("a",)),), NEST), (((), ()), ()), ((NEST,), ()),
       (((None,),), (("x", (0,)),)), (((0,),), (("x", (0,)),)), (((), ()), (("x", NEST),)), ((), (), ()), ((1,), ()), ((NEST, ()),),
       (0, 0, 1, (1,)), (0, 0, 1, NEST), (NEST, 0, 1, (1,)), (0, NEST, 1, (1,)), (0, 0, NEST, (1,)), (0, 1, 0, (1,)), ((NEST, 0),),
       ((0, 1), (1, 0)), ((0, 1), (1, 2)), ((5, 6), (8, 9)), ((3,), (1, 2)), ((3,), NEST), ((0, "a"), (1, "b")),
       (0,) * 3000, ("shot",) * 3000, "plain shot", (10 ** 30, 0), "01", ((0, 1), 0),
       (("open", 0),), (("open", NEST),), (("shut", 0),), (("commit", ("x",)),), (("commit", ()),), (("commit", NEST),), ((NEST, 0),),
       (("open", 0), ("open", 0)), (("open", True),), ("open", 0), (("open", 0, 0),), ((((),),),), ((("open", 0),), 0), (NEST, 0),
       (((("open", 0),), NEST),), ((0, "x", 0),), ((0, "x", NEST),), ((0, NEST, 0),), ((NEST, "x", 0),), ((1, "x", 0), (1, "x", 0)),
       (("set", "a", "c"),), (("set", "a", NEST),), (("set", NEST, "c"),), (("end", "a"),), (("end", NEST),), (("end", "a"), ("end", "a")),
       (("log", 1),), (("log", NEST),), (("flush",),), (("flush", 0),), (("out", 0),), (("out", NEST),), (("told", "a"),), (("told", NEST),),
       ((),), (("set",),), (NEST,), (["end", "a"],), (0, (0, (-1, -1))), (0, (0, NEST)), (0, (NEST, (-1, -1))), (NEST, (0, (-1, -1))),
       (8, (3, (6, -1, -1))), (8, (3, (6,))), (8, (3, NEST)), ("safe",), ("safe", ()), ("safe", NEST), ("safe", (), ()), ("safe", []),
       ("sure", ()), (NEST, ()), ("no head", ()), ("no head", (), 0), ("no head", NEST, NEST), ("not lower", (), ()), ("not lower", (), NEST),
       ("let", (), ()), ("let", NEST, NEST), ("straight", (), (0,)), ("comes", (), ((), ())), ("comes", (), NEST), ("never", NEST, ((), ())),
       ("safe by", (), ()), ("safe by", (), NEST), ("many", (), ()), ("many", NEST, ()), ("many", NEST, NEST), ("ranges", ()),
       ("ranges", NEST), ("smooth", ()), ("smooth", NEST), ("lasting", (), ()), ("lasting", ((),), ()), ("lasting", NEST, ()),
       ("lasting", ((),), NEST), "", " ", "enter", "enter shot", "read 0 x", "read 00 x", "read -0 x", "fall -5", "fall --5", "flush ",
       " flush", "flush\n", "rows rows", "workers gone", "workers away", "level a", "deeds 0", "read 0 X", "write 0 x y"]


def spoilt(value):
    """Values that differ from this one in one place: another kind, one more, one less."""
    if isinstance(value, tuple):
        yield list(value)
        yield value + (None,)
        yield (None,) + value
        yield None
        for at, part in enumerate(value):
            for other in spoilt(part):
                yield value[:at] + (other,) + value[at + 1:]
    elif isinstance(value, int):
        yield from (bool(value), str(value), None, (value,), -1, 10 ** 12)
    elif value is None:
        yield from (False, "", (), -1, 10 ** 12)
    else:
        yield from (value + "A", "", None, True, 0, (value,), [value])


class Things(unittest.TestCase):
    def each(self):
        names = interface.all_names()
        for _, name, arguments in samples.calls():
            if "thing" in arguments:
                yield name, names[name], arguments

    def test_the_right_ones(self):
        for name, function, arguments in self.each():
            with self.subTest(name=name):
                self.assertIs(function(**arguments), True)

    def test_nearly_right_ones(self):
        for name, function, arguments in self.each():
            for thing in spoilt(arguments["thing"]):
                if thing == arguments["thing"] and kinds(thing) == kinds(arguments["thing"]):
                    continue
                with self.subTest(name=name, thing=thing):
                    self.assertIs(function(**{**arguments, "thing": thing}), False)

    def test_values_of_every_kind(self):
        for name, function, arguments in self.each():
            for thing in ZOO:
                with self.subTest(name=name, thing=thing):
                    told = function(**{**arguments, "thing": thing})
                    self.assertIn(told, (True, False))
                    self.assertIs(type(told), bool)
                    # A request is a string; what is asked of all others is a tuple.
                    if not isinstance(thing, str if name == "is_request" else tuple):
                        self.assertIs(told, False)

    def test_whatever_the_bounds(self):
        names = interface.all_names()
        steps = tuple((kind, "r" + letter + other) for letter in "abcdefgh" for other in "abcdefgh"
                      for kind in ("read", "write"))
        self.assertIs(names["is_job"](("shot", steps)), True)
        self.assertIs(names["is_jobs"]((("shot", steps),) * 300), True)
        self.assertIs(names["is_jobs"]((("shot", steps),) * 300 + (("shot", steps + steps[:1]),)), False)
        self.assertIs(names["is_jobs"](()), True)
        ring = tuple(range(500))
        edges = [(one, (one + 1) % 500, "x", "over") for one in ring]
        self.assertIs(names["is_ring"](edges, ring), True)
        self.assertIs(names["is_ring"](edges, ring[1:] + ring[:1]), False)


if __name__ == "__main__":
    unittest.main()
