import math
import random
import unittest
from fractions import Fraction

from chairclans.errors import NoRatio
from chairclans.ratios import less, minus, plus, ratio
from tests.helper import assert_refused, assert_whole, number_of

HUGE = 10 ** 300 - 1


def pair(fraction):
    return (fraction.numerator, fraction.denominator)


def signed(chance, figures):
    return chance.choice((1, -1)) * number_of(chance, figures)


def many_pairs():
    """Pairs of whole numbers of up to three hundred figures, with common divisors and without."""
    chance = random.Random(4)
    pairs = [(HUGE, HUGE), (HUGE, -HUGE), (HUGE, 1), (1, HUGE), (-HUGE, HUGE - 1), (0, HUGE), (0, -HUGE)]
    for figures in (1, 2, 9, 19, 20, 40, 99, 150, 299, 300):
        for again in range(6):
            pairs.append((signed(chance, figures), signed(chance, figures)))
            pairs.append((signed(chance, figures), signed(chance, chance.randrange(1, 301))))
    for figures in (1, 5, 30, 150):
        for again in range(6):
            common = number_of(chance, figures)
            pairs.append((common * signed(chance, figures), common * signed(chance, figures)))
            first = signed(chance, figures)
            pairs.append((first, first * signed(chance, figures)))
            pairs.append((first * signed(chance, figures), first))
    return pairs


def small_ratios():
    return sorted({Fraction(top, bottom) for top in range(-7, 8) for bottom in range(1, 7)})


def great_ratios():
    chance = random.Random(44)
    tops = [signed(chance, figures) for figures in (1, 30, 150, 300) for again in range(3)] + [0]
    return [Fraction(top, number_of(chance, chance.choice((1, 30, 150, 300)))) for top in tops]


class Made(unittest.TestCase):
    def assert_made(self, top, bottom):
        made = ratio(top, bottom)
        self.assertIs(type(made), tuple)
        self.assertEqual(len(made), 2)
        assert_whole(self, made[0])
        assert_whole(self, made[1])
        self.assertGreaterEqual(made[1], 1)
        self.assertEqual(math.gcd(made[0], made[1]), 1)
        self.assertEqual(made[0] * bottom, top * made[1])

    def test_by_name(self):
        self.assertEqual(ratio(top=6, bottom=-4), (-3, 2))

    def test_plain_ones(self):
        told = {
            (1, 2): (1, 2), (2, 4): (1, 2), (-10, 6): (-5, 3), (10, -6): (-5, 3), (-10, -6): (5, 3),
            (0, 1): (0, 1), (0, 7): (0, 1), (0, -7): (0, 1), (9, 3): (3, 1), (3, 9): (1, 3), (3, -9): (-1, 3),
            (5, 1): (5, 1), (5, -1): (-5, 1), (4, 4): (1, 1),
        }
        for handed, wanted in told.items():
            with self.subTest(handed):
                self.assertEqual(ratio(*handed), wanted)

    def test_small_ones(self):
        for top in range(-30, 31):
            for bottom in range(-30, 31):
                if bottom != 0:
                    self.assert_made(top, bottom)

    def test_many_figures(self):
        for top, bottom in many_pairs():
            self.assert_made(top, bottom)

    def test_a_bottom_of_nought_is_refused(self):
        for top in (0, 1, -1, 12, HUGE, -HUGE):
            assert_refused(self, NoRatio, ratio, top, 0)

    def test_what_is_no_whole_number_is_refused(self):
        for top, bottom in ((True, 2), (1, True), (0, False), ("1", 2), (1, None), (1.0, 2)):
            assert_refused(self, NoRatio, ratio, top, bottom)


class Reckoned(unittest.TestCase):
    def assert_reckoned(self, one, other):
        first, second = pair(one), pair(other)
        for told, wanted in ((plus(first, second), one + other), (minus(first, second), one - other)):
            self.assertIs(type(told), tuple)
            assert_whole(self, told[0])
            assert_whole(self, told[1])
            self.assertEqual(told, pair(wanted))
        self.assertIs(less(first, second), one < other)

    def test_by_name(self):
        self.assertEqual(plus(one=(1, 2), other=(1, 6)), (2, 3))
        self.assertEqual(minus(one=(1, 2), other=(1, 6)), (1, 3))
        self.assertIs(less(one=(1, 6), other=(1, 2)), True)

    def test_plain_ones(self):
        self.assertEqual(plus((1, 2), (1, 2)), (1, 1))
        self.assertEqual(plus((1, 2), (-1, 2)), (0, 1))
        self.assertEqual(minus((1, 3), (1, 2)), (-1, 6))
        self.assertEqual(minus((1, 2), (1, 3)), (1, 6))
        self.assertEqual(minus((5, 3), (5, 3)), (0, 1))

    def test_small_ones_both_ways_round(self):
        for one in small_ratios():
            for other in small_ratios():
                self.assert_reckoned(one, other)

    def test_many_figures_both_ways_round(self):
        for one in great_ratios():
            for other in great_ratios():
                self.assert_reckoned(one, other)

    def test_equal_ones_are_not_less(self):
        for one in ((0, 1), (1, 2), (-1, 2), (HUGE, 7), (-HUGE, 7)):
            self.assertIs(less(one, one), False)

    def test_very_near_ones(self):
        for figures in (1, 15, 17, 60, 150, 298):
            near = 10 ** figures
            one, other = Fraction(near, near + 1), Fraction(near + 1, near + 2)
            for lesser, greater in ((one, other), (-other, -one), (Fraction(0), Fraction(1, near))):
                self.assertIs(less(pair(lesser), pair(greater)), True)
                self.assertIs(less(pair(greater), pair(lesser)), False)
