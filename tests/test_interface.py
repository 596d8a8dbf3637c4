"""Each name of the interface stands in its file, with its arguments and defaults."""

import inspect
import unittest
from importlib import import_module

from interface_tables import FUNCTIONS, METHODS, VALUES

ERRORS = ("AlgebraError", "NumberError", "PolyError", "MatrixError", "IdealError", "TextError", "SolveError")


class InterfaceTest(unittest.TestCase):
    def test_errors(self):
        module = import_module("algebrastack.errors")
        for name in ERRORS:
            error = getattr(module, name)
            self.assertEqual(error.__module__, "algebrastack.errors")
            self.assertTrue(issubclass(error, ValueError))

    def test_values(self):
        for place, table in VALUES.items():
            module = import_module("algebrastack." + place)
            for name, value in table.items():
                self.assertEqual(getattr(module, name), value)

    def test_functions(self):
        for place, table in FUNCTIONS.items():
            module = import_module("algebrastack." + place)
            for name, arguments in table.items():
                with self.subTest(place=place, name=name):
                    function = getattr(module, name)
                    self.assertTrue(inspect.isfunction(function))
                    self.assertEqual(function.__module__, module.__name__)
                    self.assertEqual(str(inspect.signature(function)), arguments)

    def test_methods(self):
        for place, classes in METHODS.items():
            module = import_module("algebrastack." + place)
            for name, table in classes.items():
                found = getattr(module, name)
                self.assertEqual(found.__module__, module.__name__)
                for method, arguments in table.items():
                    with self.subTest(place=place, name=name, method=method):
                        self.assertEqual(str(inspect.signature(vars(found)[method])), arguments)


if __name__ == "__main__":
    unittest.main()
