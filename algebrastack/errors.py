"""Errors: every failure is an AlgebraError, which is a ValueError."""


class AlgebraError(ValueError):
    """The base of all errors of this package."""


class NumberError(AlgebraError):
    """A number is invalid, or a division by nothing."""


class PolyError(AlgebraError):
    """A polynomial cannot be used so."""


class MatrixError(AlgebraError):
    """A matrix has another shape, or has no inverse."""


class IdealError(AlgebraError):
    """An ideal cannot be used so, or its basis grows too large."""


class TextError(AlgebraError):
    """A text is no expression, or no line."""


class SolveError(AlgebraError):
    """Something cannot be solved, summed or integrated here."""
