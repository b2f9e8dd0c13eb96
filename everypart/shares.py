"""Shares: fractions of integers."""

from math import gcd

from everypart.errors import InvalidNumber
from everypart.kinds import is_integer


class Share:
    """The fraction over / under, in lowest terms, under being above 0."""

    def __init__(self, over, under):
        for number in (over, under):
            if not is_integer(number):
                raise InvalidNumber(number)
        if under == 0:
            raise InvalidNumber(under)
        common = gcd(over, under) if under > 0 else -gcd(over, under)
        self.over = over // common
        self.under = under // common

    def __eq__(self, other):
        return isinstance(other, Share) and self.over == other.over and self.under == other.under

    def __add__(self, other):
        return Share(self.over * other.under + other.over * self.under, self.under * other.under)

    def __sub__(self, other):
        return Share(self.over * other.under - other.over * self.under, self.under * other.under)

    def __mul__(self, other):
        return Share(self.over * other.over, self.under * other.under)

    def is_below(self, other):
        """Whether this share is less than the other one."""
        return self.over * other.under < other.over * self.under

    @classmethod
    def whole(cls, number):
        """The share that is this integer."""
        return cls(number, 1)
