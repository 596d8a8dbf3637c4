import unittest

from algebrastack.errors import (
    AlgebraError,
    IdealError,
    MatrixError,
    NumberError,
    PolyError,
    SolveError,
    TextError,
)

SIX = (NumberError, PolyError, MatrixError, IdealError, TextError, SolveError)


class ErrorTest(unittest.TestCase):
    def test_the_base_is_a_value_error(self):
        self.assertTrue(issubclass(AlgebraError, ValueError))

    def test_each_error_stands_under_the_base(self):
        for error in SIX:
            with self.subTest(error=error.__name__):
                self.assertTrue(issubclass(error, AlgebraError))
                with self.assertRaises(AlgebraError):
                    raise error("why")
                with self.assertRaises(ValueError):
                    raise error("why")

    def test_the_errors_are_told_apart(self):
        for error in SIX:
            for other in SIX:
                if error is not other:
                    self.assertFalse(issubclass(error, other), (error, other))


if __name__ == "__main__":
    unittest.main()
