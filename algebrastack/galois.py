"""Galois fields: remainders of polynomials by one that cannot be parted, over the remainders by a prime."""

from algebrastack.errors import NumberError, PolyError
from algebrastack.factors import factors_by, null_rows, power_modulo
from algebrastack.integers import is_prime, power, prime_factors, root_below
from algebrastack.polys import (
    Field,
    degree_of,
    monic_of,
    poly,
    poly_bezout,
    poly_divided,
    poly_minus,
    poly_plus,
    poly_times,
)

MOST_PRIME = 1000
MOST_MANY = 8


class Galois:
    """A prime, a polynomial that cannot be parted, and how many elements there are; elements are polynomials."""

    def __init__(self, prime, one=None, many=1):
        if not 1 < prime < MOST_PRIME or not is_prime(prime):
            raise NumberError("a number is no prime below 1000")
        self.prime = prime
        self.field = Field(prime)
        self.base = first_irreducible(prime, many) if one is None else poly(self.field, one)
        if not cannot_part(prime, self.base):
            raise PolyError("a polynomial can be parted")
        self.size = power(prime, degree_of(self.base))

    def reduced(self, one):
        """Return the remainder of a polynomial."""
        return poly_divided(self.field, one, self.base)[1]

    def added(self, one, other):
        """Return a sum."""
        return self.reduced(poly_plus(self.field, one, other))

    def taken(self, one, other):
        """Return a difference."""
        return self.reduced(poly_minus(self.field, one, other))

    def multiplied(self, one, other):
        """Return a product."""
        return self.reduced(poly_times(self.field, one, other))

    def inverse_of(self, one):
        """Return the inverse; raise NumberError for 0."""
        rest = self.reduced(one)
        if rest == ():
            raise NumberError("0 has no inverse")
        return self.reduced(poly_bezout(self.field, rest, self.base)[1])

    def raised_to(self, one, exponent):
        """Return a power with a whole exponent; raise NumberError for 0 with one below 0."""
        if exponent < 0:
            return self.raised_to(self.inverse_of(one), 0 - exponent)
        return power_modulo(self.field, one, exponent, self.base)

    def order_of(self, one):
        """Return the least exponent above 0 with which an element's power is 1; raise NumberError for 0."""
        if self.reduced(one) == ():
            raise NumberError("no power of 0 is 1")
        found = self.size - 1
        for prime, exponent in prime_factors(found):
            for _ in range(exponent):
                if self.raised_to(one, found // prime) == (1,):
                    found = found // prime
        return found

    def element(self, number):
        """Return the element whose coefficients are a number's digits by the prime, the lowest first."""
        return self.reduced(poly(self.field, digits_of(number, self.prime)))

    def number_of(self, one):
        """Return the number of an element."""
        found = 0
        for digit in reversed(one):
            found = found * self.prime + digit
        return found

    def generator(self):
        """Return the element with the least number whose powers are all elements but 0."""
        primes = [prime for prime, _ in prime_factors(self.size - 1)]
        # The powers of a number are all numbers, which are all elements only where the base has the degree 1.
        number = 1 if self.size == self.prime else self.prime
        while not self.generates(self.element(number), primes):
            number = number + 1
        return self.element(number)

    def generates(self, one, primes):
        """Return True if an element's powers are all elements but 0; primes are those of the size less 1."""
        return all([self.raised_to(one, (self.size - 1) // prime) != (1,) for prime in primes])

    def logarithm(self, base, one):
        """Return the least exponent from 0 on with which a base's power is an element; raise NumberError for none."""
        wanted, step = self.reduced(one), self.reduced(base)
        if wanted == (1,):
            return 0
        if wanted == () or step == ():
            return self.logarithm_with_0(step, wanted)
        # Exponents go by great steps of so many: what is left after these is looked up among the first powers.
        many = root_below(self.size, 2) + 1
        places, found = {}, (1,)
        for place in range(many):
            places.setdefault(found, place)
            found = self.multiplied(found, step)
        back = self.inverse_of(found)
        for place in range(many):
            if wanted in places:
                return place * many + places[wanted]
            wanted = self.multiplied(wanted, back)
        raise NumberError("there is no such exponent")

    def logarithm_with_0(self, base, one):
        """Return the exponent 1 if a base and an element are 0; raise NumberError if just one of them is."""
        if base != one:
            raise NumberError("there is no such exponent")
        return 1

    def least_poly(self, one):
        """Return the polynomial of least degree, over the prime's remainders, with an element as a root."""
        powers = [(1,)]
        while null_rows(self.field, powers) == []:
            powers.append(self.multiplied(powers[-1], one))
        return monic_of(self.field, null_rows(self.field, powers)[0])


def digits_of(number, base):
    """Return the digits of a number by a base, the lowest first."""
    found, left = [], number
    while left > 0:
        found.append(left % base)
        left = left // base
    return found


def cannot_part(prime, one):
    """Return True if a polynomial of degree 1 or more cannot be parted by a prime."""
    if degree_of(one) < 1:
        return False
    rows = factors_by(prime, one)[1]
    return len(rows) == 1 and rows[0][1] == 1


def first_irreducible(prime, many):
    """Return the first polynomial of a degree, by the numbers of its lower coefficients, that cannot be parted."""
    if not 1 <= many <= MOST_MANY:
        raise PolyError("a degree is not from 1 to 8")
    number = 0
    while True:
        low = digits_of(number, prime)
        found = tuple(low + [0] * (many - len(low)) + [1])
        if cannot_part(prime, found):
            return found
        number = number + 1
