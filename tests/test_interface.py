"""[2], [23]: names and order of arguments, lists for tuples, calls by name, new lists, nothing changed."""

import copy
import inspect
import unittest

import interface
import samples

# What comes back as a list: several results, where the document names no tuple.
LISTS = ("all_mixes whole_mixes neighbours barred_moves pinches all_let all_rings straight_orders all_splits "
         "safe_lots all_enough fine_orders saving_holdings greatest_safe rows_for rows_by hurting_levels letting_levels "
         "refusing_raises clearing_raises undo_sets log_disks levels_that_mend replies").split()


def kinds(value):
    """The shape of a value: what is a tuple, a list, a number, True or False."""
    if isinstance(value, (tuple, list)):
        return (type(value).__name__, [kinds(part) for part in value])
    return type(value).__name__


class Interface(unittest.TestCase):
    def test_each_function_stands_in_its_file(self):
        for module, name, arguments in interface.listed():
            with self.subTest(name=name):
                function = getattr(interface.module_of(module), name)
                self.assertTrue(inspect.isfunction(function))
                self.assertEqual(function.__module__, "nosplit." + module)
                self.assertEqual(tuple(inspect.signature(function).parameters), arguments)

    def test_number_of_functions(self):
        self.assertEqual({module: len(text.split()) for module, text in interface.SIGNATURES.items()},
                         {"jobs": 27, "mixes": 23, "store": 17, "orders": 17, "splits": 15, "levels": 17, "changes": 23,
                          "fillings": 16, "histories": 20, "sessions": 20, "gaps": 9, "ranges": 13, "waits": 14,
                          "smooth": 7, "sweeps": 19, "blame": 14, "log": 13, "judge": 8, "texts": 10, "desk": 2})

    def test_all_names_are_unlike(self):
        names = [name for _, name, _ in interface.listed()]
        self.assertEqual((len(names), len(set(names))), (304, 304))

    def test_board(self):
        board = interface.module_of("board").Board
        self.assertEqual(board.__module__, "nosplit.board")
        self.assertEqual(tuple(inspect.signature(board).parameters), ("rows",))
        self.assertEqual(len(interface.methods()), 24)
        for name, arguments in interface.methods():
            with self.subTest(name=name):
                method = vars(board)[name]
                self.assertTrue(inspect.isfunction(method))
                self.assertEqual(tuple(inspect.signature(method).parameters)[1:], arguments)
        for name in ("__len__", "__eq__"):
            self.assertTrue(inspect.isfunction(vars(board)[name]))


class Calls(unittest.TestCase):
    def setUp(self):
        self.names = interface.all_names()

    def go_through(self, check):
        for _, name, arguments in samples.calls():
            with self.subTest(name=name, arguments=arguments):
                check(name, self.names[name], arguments)

    def test_every_function_has_a_call(self):
        called = {name for _, name, _ in samples.calls()}
        self.assertEqual(called, {name for _, name, _ in interface.listed()})

    def test_by_name_as_by_place(self):
        def check(name, function, arguments):
            by_place = function(*arguments.values())
            self.assertEqual(function(**dict(reversed(list(arguments.items())))), by_place)

        self.go_through(check)

    def test_lists_for_tuples(self):
        def check(name, function, arguments):
            for changed in (samples.listed_deep, samples.listed_some):
                lists = {word: value if word == "thing" else changed(value) for word, value in arguments.items()}
                wanted, result = function(**arguments), function(**lists)
                self.assertEqual(result, wanted)
                self.assertEqual(kinds(result), kinds(wanted))

        self.go_through(check)

    def test_nothing_is_changed(self):
        def check(name, function, arguments):
            lists = {word: value if word == "thing" else samples.listed_deep(value)
                     for word, value in arguments.items()}
            kept = copy.deepcopy(lists)
            function(**lists)
            self.assertEqual(lists, kept)

        self.go_through(check)

    def test_lists_come_back_where_the_document_says_so(self):
        def check(name, function, arguments):
            result = function(**arguments)
            self.assertEqual(isinstance(result, list), name in LISTS)
            within = result if isinstance(result, list) else [result]
            self.assertNotIn("list", repr([kinds(part) for part in within]))

        self.go_through(check)

    def test_a_list_is_new_each_time(self):
        def check(name, function, arguments):
            if name in LISTS:
                first, second = function(**arguments), function(**arguments)
                self.assertIsNot(first, second)
                kept = list(second)
                first.append("more")
                self.assertEqual(second, kept)
                self.assertEqual(function(**arguments), kept)

        self.go_through(check)

    def test_the_same_call_gives_the_same(self):
        def check(name, function, arguments):
            self.assertEqual(function(**arguments), function(**arguments))

        self.go_through(check)

    def test_what_comes_back_can_go_in_again(self):
        jobs = self.names["with_job"]([list(samples.PAY)], list(samples.LOOK))
        self.assertTrue(self.names["is_jobs"](jobs))
        for mix in self.names["all_mixes"](jobs):
            self.assertTrue(self.names["is_mix"](jobs, mix))


if __name__ == "__main__":
    unittest.main()
