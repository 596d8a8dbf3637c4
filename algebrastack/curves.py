"""Curves: points of y * y = x * x * x + a * x + b by a prime, which can be added."""

from math import isqrt

from algebrastack.errors import NumberError
from algebrastack.integers import inverse, is_prime, repeated

LEAST_PRIME = 5
MOST_COUNTED = 2000


class Curve:
    """The prime, and the factors a and b by it. A point is (x, y), or None for the one far away."""

    def __init__(self, prime, a, b):
        if prime < LEAST_PRIME or not is_prime(prime):
            raise NumberError("a number is no prime from 5 on")
        if (4 * a * a * a + 27 * b * b) % prime == 0:
            raise NumberError("a curve meets itself, or has a corner")
        self.prime = prime
        self.a = a % prime
        self.b = b % prime

    def has(self, point):
        """Return True for a point of the curve: its numbers are from 0 below the prime."""
        if point is None:
            return True
        x, y = point
        if not (0 <= x < self.prime and 0 <= y < self.prime):
            return False
        return y * y % self.prime == self.square_at(x)

    def square_at(self, x):
        """Return the square that y has at a number."""
        return (x * x * x + self.a * x + self.b) % self.prime

    def need(self, point):
        """Raise NumberError for what is no point of the curve."""
        if not self.has(point):
            raise NumberError("a point does not stand on the curve")

    def need_counted(self):
        """Raise NumberError for a prime above 2000."""
        if self.prime > MOST_COUNTED:
            raise NumberError("a prime is above 2000")

    def turned(self, point):
        """Return the point that is 0 with another one; raise NumberError for none."""
        self.need(point)
        return None if point is None else (point[0], (0 - point[1]) % self.prime)

    def added(self, one, other):
        """Return the sum of two points; raise NumberError for others."""
        self.need(one)
        self.need(other)
        return self.sum_here(one, other)

    def sum_here(self, one, other):
        """Return the sum of two points that stand on the curve."""
        if one is None or other is None:
            return other if one is None else one
        x, y = one
        if x != other[0]:
            slope = (other[1] - y) * inverse((other[0] - x) % self.prime, self.prime)
        elif (y + other[1]) % self.prime == 0:
            return None
        else:
            slope = (3 * x * x + self.a) * inverse(2 * y % self.prime, self.prime)
        third = (slope * slope - x - other[0]) % self.prime
        return third, (slope * (x - third) - y) % self.prime

    def times(self, many, point):
        """Return a point added to itself so many times, turned for a number below 0."""
        self.need(point)
        base = self.turned(point) if many < 0 else point
        return repeated(lambda one, other: self.sum_here(one, other), None, base, abs(many))

    def all_points(self):
        """Return all points but the one far away, ascending; raise NumberError for a prime above 2000."""
        self.need_counted()
        roots = {}
        for y in range(self.prime):
            roots.setdefault(y * y % self.prime, []).append(y)
        return tuple([(x, y) for x in range(self.prime) for y in roots.get(self.square_at(x), [])])

    def count_points(self):
        """Return how many points there are, with the one far away; raise NumberError for a prime above 2000."""
        return len(self.all_points()) + 1

    def order_of_point(self, point):
        """Return the least number above 0 by which a point comes to 0; raise NumberError for a prime above 2000."""
        self.need_counted()
        self.need(point)
        found, here = 1, point
        while here is not None:
            found, here = found + 1, self.sum_here(here, point)
        return found

    def logarithm(self, point, base):
        """Return the least number from 0 on by which a base comes to a point, None if none does.

        It goes by steps of the root's length; NumberError for a prime above 2000.
        """
        self.need_counted()
        self.need(point)
        self.need(base)
        # A curve has at most 2 * prime + 1 points: so many steps of this length go round.
        length = isqrt(2 * self.prime + 1) + 1
        places, here = {}, None
        for place in range(length):
            places.setdefault(here, place)
            here = self.sum_here(here, base)
        back, left = self.turned(here), point
        for step in range(length):
            if left in places:
                return step * length + places[left]
            left = self.sum_here(left, back)
        return None
