"""[23]: the errors, what they keep, and what they stand under."""

import unittest

import interface
from nosplit import errors

OWN = [getattr(errors, name) for name in interface.ERRORS]


class Errors(unittest.TestCase):
    def test_all_ten_and_no_other(self):
        found = [name for name in vars(errors) if isinstance(vars(errors)[name], type)]
        self.assertEqual(sorted(found), sorted(interface.ERRORS))
        self.assertEqual(len(found), 10)

    def test_builtin_class(self):
        for name, (base, _) in interface.ERRORS.items():
            with self.subTest(name=name):
                error = getattr(errors, name)
                self.assertEqual(error.__bases__, (base,))
                self.assertEqual(error.__module__, "nosplit.errors")

    def test_under_no_other_error_of_the_package(self):
        for error in OWN:
            self.assertEqual([other for other in OWN if issubclass(error, other)], [error])

    def test_what_is_kept_by_place_and_by_name(self):
        for name, (_, keeps) in interface.ERRORS.items():
            error = getattr(errors, name)
            for value in (7, -1, "row", (1, 2)):
                with self.subTest(name=name, value=value):
                    by_place = error(*[value for _ in keeps])
                    by_name = error(**{kept: value for kept in keeps})
                    self.assertEqual(vars(by_place), {kept: value for kept in keeps})
                    self.assertEqual(vars(by_name), vars(by_place))

    def test_raised_and_caught(self):
        for name, (base, keeps) in interface.ERRORS.items():
            with self.subTest(name=name), self.assertRaises(base):
                raise getattr(errors, name)(*[3 for _ in keeps])


if __name__ == "__main__":
    unittest.main()
