"""Promise [24]: shares."""

import unittest
from fractions import Fraction
from math import gcd

from everypart.errors import InvalidNumber
from everypart.graphs import Graph
from everypart.shares import Share
from tests.helpers import Dice, assert_error, assert_keeps, nested, values_of_all_kinds

SMALL = list(range(-6, 7))


def long_numbers(count):
    """Integers of up to 40 digits, below 0 too, some with common divisors."""
    dice = Dice(40)
    for place in range(count):
        number = 0
        for _ in range(1 + place % 40):
            number = number * 10 + dice.below(10)
        yield number * dice.pick((1, -1))
    yield from (10 ** 40 - 1, 1 - 10 ** 40, 2 ** 132, 6 ** 51, -(6 ** 51), 10 ** 39, 3 ** 83)


def pairs_of_numbers():
    for over in SMALL:
        for under in SMALL:
            if under != 0:
                yield over, under
    numbers = [number for number in long_numbers(40) if number != 0]
    for place, over in enumerate(numbers):
        yield from ((over, numbers[place - 1]), (over, numbers[place - 7]), (numbers[place - 3], over), (over, over),
                    (0, over), (over, 1), (1, over), (over, -2))


def fraction_of(share):
    return Fraction(share.over, share.under)


def no_integers():
    values = [value for value in values_of_all_kinds() if value.__class__ is not int]
    return values + [Share(1, 2), Share(3, 1), (1,), nested(1, 10), (Share(1, 1), 1)]


class ShareTest(unittest.TestCase):

    def assert_share(self, share, fraction):
        """It is this fraction, kept in lowest terms with under above 0."""
        self.assertIs(share.__class__, Share)
        self.assertIs(share.over.__class__, int)
        self.assertIs(share.under.__class__, int)
        self.assertEqual((share.over, share.under), (fraction.numerator, fraction.denominator))
        self.assertGreater(share.under, 0)
        self.assertEqual(gcd(share.over, share.under), 1)

    def test_lowest_terms(self):
        for over, under in pairs_of_numbers():
            self.assert_share(Share(over, under), Fraction(over, under))
            self.assert_share(Share(under=under, over=over), Fraction(over, under))

    def test_signs(self):
        pairs = list(pairs_of_numbers())
        for place, pair in enumerate(pairs[:156]):
            for other in pairs[:156][place % 3::3]:
                self.check_signs(pair, other)
        for place, pair in enumerate(pairs[156:]):
            for other in (pairs[place], pairs[156:][place - 1], pairs[156:][place - 11], pair):
                self.check_signs(pair, other)

    def check_signs(self, pair, other):
        one, two = Share(*pair), Share(*other)
        first, second = Fraction(*pair), Fraction(*other)
        self.assert_share(one + two, first + second)
        self.assert_share(one - two, first - second)
        self.assert_share(one * two, first * second)
        self.assertIs(one == two, first == second)
        self.assertIs(one != two, first != second)
        self.assertIs(one.is_below(two), first < second)
        self.assertIs(one.is_below(other=two), first < second)
        self.assertEqual((fraction_of(one), fraction_of(two)), (first, second))

    def test_sums_and_products_may_have_more_than_40_digits(self):
        total, fraction = Share(1, 1), Fraction(1)
        for number in range(10 ** 39, 10 ** 39 + 60):
            total = total * Share(number, 10 ** 39 - 1) + Share(1, number)
            fraction = fraction * Fraction(number, 10 ** 39 - 1) + Fraction(1, number)
        self.assert_share(total, fraction)
        self.assertGreater(total.under, 10 ** 2000)

    def test_examples(self):
        half, third = Share(1, 2), Share(2, 6)
        self.assertEqual((third.over, third.under), (1, 3))
        self.assertEqual((Share(3, -6).over, Share(3, -6).under), (-1, 2))
        self.assertEqual((Share(0, -7).over, Share(0, -7).under), (0, 1))
        self.assertEqual(half + third, Share(5, 6))
        self.assertEqual(half - third, Share(1, 6))
        self.assertEqual(third - half, Share(1, -6))
        self.assertEqual(half * third, Share(-1, -6))
        self.assertIs(third.is_below(half), True)
        self.assertIs(half.is_below(third), False)
        self.assertIs(half.is_below(Share(2, 4)), False)
        self.assertIs(Share(-1, 2).is_below(Share(-1, 3)), True)

    def test_whole(self):
        for number in SMALL + list(long_numbers(40)):
            self.assert_share(Share.whole(number), Fraction(number))
            self.assert_share(Share.whole(number=number), Fraction(number))
            self.assertEqual(Share.whole(number), Share(number, 1))
        for value in no_integers():
            assert_keeps(self, InvalidNumber, "value", value, Share.whole)

    def test_equal_to_no_other_kind(self):
        for share in (Share(1, 1), Share(0, 1), Share(1, 2), Share(-1, 1)):
            for value in no_integers() + [0, 1, -1, (1, 1), (1, 2), (0, 1), (share.over, share.under), "1/2", [share],
                                          (share,), Graph.path(1)]:
                if isinstance(value, Share) and fraction_of(value) == fraction_of(share):
                    continue
                self.assertIs(share == value, False)
                self.assertIs(share != value, True)
                self.assertIs(value == share, False)
        self.assertIs(Share(1, 2) == Share(1, 3), False)
        self.assertIs(Share(1, 2) == Share(3, 2), False)
        self.assertIs(Share(1, 2) != Share(2, 4), False)

    def test_what_is_no_integer(self):
        for value in no_integers():
            for other in (1, 0, -3):
                assert_keeps(self, InvalidNumber, "value", value, lambda given: Share(given, other))
                assert_keeps(self, InvalidNumber, "value", value, lambda given: Share(other, given))
            assert_keeps(self, InvalidNumber, "value", value, lambda given: Share(given, [0]))
            assert_keeps(self, InvalidNumber, "value", value, lambda given: Share(given, None))

    def test_an_under_of_0(self):
        for over in SMALL + list(long_numbers(5)):
            assert_error(self, InvalidNumber, lambda: Share(over, 0), value=0)
        assert_error(self, InvalidNumber, lambda: Share(False, 0), value=False)

    def test_signs_change_nothing(self):
        one, two = Share(3, 4), Share(5, 6)
        for call in (lambda: one + two, lambda: one - two, lambda: one * two, lambda: one == two,
                     lambda: one.is_below(two)):
            self.assertEqual(call(), call())
            self.assertEqual(((one.over, one.under), (two.over, two.under)), ((3, 4), (5, 6)))


if __name__ == "__main__":
    unittest.main()
