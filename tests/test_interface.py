"""Each name of the interface stands in its file, with its arguments and defaults."""

import inspect
import unittest
from importlib import import_module

from algebrastack.ideals import Ideal
from algebrastack.terms import variable
from interface_tables import FIELDS, FUNCTIONS, METHODS, VALUES

ERRORS = ("AlgebraError", "NumberError", "PolyError", "MatrixError", "IdealError", "TextError", "SolveError")


class InterfaceTest(unittest.TestCase):
    def test_errors(self):
        module = import_module("algebrastack.errors")
        for name in ERRORS:
            error = getattr(module, name)
            self.assertEqual(error.__module__, "algebrastack.errors")
            self.assertTrue(issubclass(error, ValueError))
            self.assertTrue(issubclass(error, module.AlgebraError))

    def test_values(self):
        for place, table in VALUES.items():
            module = import_module("algebrastack." + place)
            for name, value in table.items():
                self.assertEqual(getattr(module, name), value)

    def test_functions(self):
        for place, table in FUNCTIONS.items():
            module = import_module("algebrastack." + place)
            for name, arguments in table.items():
                with self.subTest(place=place, name=name):
                    function = getattr(module, name)
                    self.assertTrue(inspect.isfunction(function))
                    self.assertEqual(function.__module__, module.__name__)
                    self.assertEqual(str(inspect.signature(function)), arguments)

    def test_methods(self):
        for place, classes in METHODS.items():
            module = import_module("algebrastack." + place)
            for name, table in classes.items():
                found = getattr(module, name)
                self.assertEqual(found.__module__, module.__name__)
                for method, arguments in table.items():
                    with self.subTest(place=place, name=name, method=method):
                        self.assertEqual(str(inspect.signature(vars(found)[method])), arguments)

    def test_fields(self):
        for place, classes in FIELDS.items():
            module = import_module("algebrastack." + place)
            for name, (arguments, fields) in classes.items():
                found = getattr(module, name)(*arguments)
                for field, kind in fields.items():
                    with self.subTest(place=place, name=name, field=field):
                        self.assertIsInstance(vars(found)[field], kind)

    def test_fields_of_ideals(self):
        ideal = Ideal([variable(2, 0)])
        self.assertEqual((ideal.order, ideal.many), ("grevlex", 2))
        for field in (ideal.generators, ideal.basis, ideal.factors):
            self.assertIsInstance(field, tuple)

    def test_the_tables_name_all_that_the_document_does(self):
        """Each file of the interface stands in the tables, and each class in its file has fields or methods there."""
        for place in (
            "integers rationals polys factors roots terms ideals matrices fractions series sums lattices galois groups "
            "expressions solving programs proofs squares curves decisions clauses machines flows session"
        ).split():
            self.assertTrue(place in FUNCTIONS or place in METHODS, place)


if __name__ == "__main__":
    unittest.main()
