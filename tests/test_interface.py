"""Each name of the interface stands in its file, with its arguments and defaults."""

import inspect
import unittest
from importlib import import_module

ERRORS = ("AlgebraError", "NumberError", "PolyError", "MatrixError", "IdealError", "TextError", "SolveError")

VALUES = {
    "rationals": {"ZERO": (0, 1), "ONE": (1, 1)},
}

FUNCTIONS = {
    "integers": {
        "common_divisor": "(one, other)",
        "bezout": "(one, other)",
        "inverse": "(number, base)",
        "power_by": "(number, exponent, base)",
        "prime_factors": "(number)",
        "is_prime": "(number)",
        "next_prime": "(number)",
        "remainders_joined": "(rows)",
        "root_below": "(number, many)",
        "power": "(number, exponent)",
        "divisors": "(number)",
        "convergents": "(one, other)",
    },
    "rationals": {
        "rational": "(one, other=1)",
        "sum_of": "(one, other)",
        "difference_of": "(one, other)",
        "product_of": "(one, other)",
        "quotient_of": "(one, other)",
        "sign": "(one)",
        "compared": "(one, other)",
        "raised": "(one, exponent)",
        "rational_text": "(one)",
    },
    "polys": {
        "trimmed": "(field, row)",
        "poly": "(field, numbers)",
        "degree_of": "(one)",
        "lead_of": "(one)",
        "poly_plus": "(field, one, other)",
        "poly_minus": "(field, one, other)",
        "scaled": "(field, one, factor)",
        "poly_times": "(field, one, other)",
        "poly_divided": "(field, one, other)",
        "monic_of": "(field, one)",
        "poly_common": "(field, one, other)",
        "poly_bezout": "(field, one, other)",
        "slope_of": "(field, one)",
        "poly_value": "(field, one, point)",
        "composed": "(field, one, other)",
        "poly_power": "(field, one, exponent)",
        "through": "(field, points)",
        "resultant": "(field, one, other)",
        "square_free_parts": "(one)",
        "whole_form": "(one)",
    },
}

METHODS = {
    "polys": {
        "Field": {
            "__init__": "(self, prime=None)",
            "plus": "(self, one, other)",
            "minus": "(self, one, other)",
            "times": "(self, one, other)",
            "over": "(self, one, other)",
            "number": "(self, whole)",
        },
    },
}


class InterfaceTest(unittest.TestCase):
    def test_errors(self):
        module = import_module("algebrastack.errors")
        for name in ERRORS:
            error = getattr(module, name)
            self.assertEqual(error.__module__, "algebrastack.errors")
            self.assertTrue(issubclass(error, ValueError))

    def test_values(self):
        for place, table in VALUES.items():
            module = import_module("algebrastack." + place)
            for name, value in table.items():
                self.assertEqual(getattr(module, name), value)

    def test_functions(self):
        for place, table in FUNCTIONS.items():
            module = import_module("algebrastack." + place)
            for name, arguments in table.items():
                with self.subTest(place=place, name=name):
                    function = getattr(module, name)
                    self.assertTrue(inspect.isfunction(function))
                    self.assertEqual(function.__module__, module.__name__)
                    self.assertEqual(str(inspect.signature(function)), arguments)

    def test_methods(self):
        for place, classes in METHODS.items():
            module = import_module("algebrastack." + place)
            for name, table in classes.items():
                found = getattr(module, name)
                self.assertEqual(found.__module__, module.__name__)
                for method, arguments in table.items():
                    with self.subTest(place=place, name=name, method=method):
                        self.assertEqual(str(inspect.signature(vars(found)[method])), arguments)


if __name__ == "__main__":
    unittest.main()
