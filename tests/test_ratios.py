"""Promise 7: ratios; and of promise 5, what a ratio is."""

import math
import unittest
from fractions import Fraction
from itertools import product

from choirtrue.ratios import fraction, power, ratio_of, ratio_text, size, together, turned

SOME = list(product((-2, 0, 1, 3), (-3, 0, 2), (-1, 0, 1), (-4, 0, 1)))
NOUGHT = (0, 0, 0, 0)


def worth(one):
    out = Fraction(1)
    for often, prime in zip(one, (2, 3, 5, 7)):
        out *= Fraction(prime) ** often
    return out


def great_figures(number):
    """The figures of a number, one by one where str refuses it."""
    out = []
    while number:
        number, last = divmod(number, 10)
        out.append("0123456789"[last])
    return "".join(reversed(out))


class Made(unittest.TestCase):
    def test_told_ratios(self):
        self.assertEqual(ratio_of(15, 14), (-1, 1, 1, -1))
        self.assertEqual(ratio_of(3, 2), (-1, 1, 0, 0))
        self.assertEqual(ratio_of(1, 1), NOUGHT)
        self.assertEqual(ratio_of(81, 80), (-4, 4, -1, 0))
        self.assertEqual(ratio_of(7, 9604), (-2, 0, 0, -3))

    def test_common_factors(self):
        self.assertEqual(ratio_of(6, 4), (-1, 1, 0, 0))
        self.assertEqual(ratio_of(9000, 9000), NOUGHT)
        self.assertEqual(ratio_of(210, 30), (0, 0, 0, 1))

    def test_great_ones(self):
        self.assertEqual(ratio_of(2 ** 900 * 3 ** 800, 5 ** 700 * 7 ** 600), (900, 800, -700, -600))
        self.assertEqual(ratio_of(7 ** 3000, 1), (0, 0, 0, 3000))
        self.assertEqual(ratio_of(1, 2 ** 5000), (-5000, 0, 0, 0))

    def test_a_tuple_of_ints(self):
        for told in (ratio_of(15, 14), together(NOUGHT, NOUGHT), turned(NOUGHT), power(NOUGHT, 0)):
            self.assertIs(told.__class__, tuple)
            self.assertEqual([part.__class__ for part in told], [int] * 4)

    def test_of_its_fraction(self):
        for one in SOME:
            self.assertEqual(ratio_of(*fraction(one)), one)


class Sums(unittest.TestCase):
    def test_together(self):
        self.assertEqual(together((1, -2, 3, 0), (4, 5, -6, 7)), (5, 3, -3, 7))
        for one in SOME:
            self.assertEqual(together(one, NOUGHT), one)
            self.assertEqual(together(one, turned(one)), NOUGHT)
            self.assertEqual(worth(together(one, SOME[5])), worth(one) * worth(SOME[5]))

    def test_turned(self):
        self.assertEqual(turned((1, -2, 3, 0)), (-1, 2, -3, 0))
        self.assertEqual(turned((0, 0, 0, -9)), (0, 0, 0, 9))

    def test_power(self):
        self.assertEqual(power((1, -2, 3, 0), 0), NOUGHT)
        self.assertEqual(power((1, -2, 3, 0), 1), (1, -2, 3, 0))
        self.assertEqual(power((1, -2, 3, 0), 4), (4, -8, 12, 0))
        self.assertEqual(power((-4, 4, -1, 0), 1000000), (-4000000, 4000000, -1000000, 0))

    def test_size(self):
        self.assertEqual(size((1, 0, 0, 0)), 1200000)
        self.assertEqual(size((0, 1, 0, 0)), 1901955)
        self.assertEqual(size((0, 0, 1, 0)), 2786314)
        self.assertEqual(size((0, 0, 0, 1)), 3368826)
        self.assertEqual(size(NOUGHT), 0)
        self.assertEqual(size((-1, 1, 0, 0)), 701955)
        self.assertEqual(size((-4, 4, -1, 0)), 21506)
        self.assertEqual(size((4, -4, 1, 0)), -21506)
        self.assertEqual(size((-1, 1, 1, -1)), 119443)
        self.assertEqual(size(power((-4, 4, -1, 0), 1000000)), 21506000000)


class Written(unittest.TestCase):
    def test_fraction(self):
        self.assertEqual(fraction((-1, 1, 1, -1)), (15, 14))
        self.assertEqual(fraction(NOUGHT), (1, 1))
        self.assertEqual(fraction((3, 0, 0, 0)), (8, 1))
        self.assertEqual(fraction((0, 0, 0, -2)), (1, 49))
        self.assertEqual(fraction(ratio_of(6, 4)), (3, 2))

    def test_fraction_is_made_lesser(self):
        for one in SOME:
            p, q = fraction(one)
            self.assertEqual(Fraction(p, q), worth(one))
            self.assertEqual(math.gcd(p, q), 1)
            self.assertGreater(q, 0)

    def test_fraction_of_great_ones(self):
        self.assertEqual(fraction((999, -800, 701, -600)), (2 ** 999 * 5 ** 701, 3 ** 800 * 7 ** 600))

    def test_ratio_text(self):
        self.assertEqual(ratio_text((-1, 1, 0, 0)), "3 / 2")
        self.assertEqual(ratio_text(NOUGHT), "1 / 1")
        self.assertEqual(ratio_text((-1, 1, 1, -1)), "15 / 14")
        self.assertEqual(ratio_text(ratio_of(100, 1000)), "1 / 10")
        for one in SOME:
            self.assertEqual(ratio_text(one), "{} / {}".format(*fraction(one)))

    def test_ratio_text_of_great_ones(self):
        for often in (59, 60, 61, 119, 120, 121, 700):
            self.assertEqual(ratio_text((often, 0, often, 0)), "1" + "0" * often + " / 1")
            self.assertEqual(ratio_text((-often, 0, -often, 0)), "1 / 1" + "0" * often)
        self.assertEqual(ratio_text((1600, 0, 0, -900)), f"{2 ** 1600} / {7 ** 900}")
        # More figures than str takes at once.
        self.assertEqual(ratio_text((0, 9500, 0, -5200)),
                         great_figures(3 ** 9500) + " / " + great_figures(7 ** 5200))


class Again(unittest.TestCase):
    """Promise 1, of ratios."""

    def test_the_same_again(self):
        one = (-4, 4, -1, 0)
        other = (1, 0, 2, -3)
        for ask in (lambda: ratio_of(15, 14), lambda: together(one, other), lambda: turned(one),
                    lambda: power(one, 5), lambda: size(one), lambda: fraction(one), lambda: ratio_text(one)):
            self.assertEqual(ask(), ask())
        self.assertEqual((one, other), ((-4, 4, -1, 0), (1, 0, 2, -3)))


if __name__ == "__main__":
    unittest.main()
