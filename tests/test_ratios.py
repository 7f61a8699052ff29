import unittest
from fractions import Fraction

from helper import is_lowest, number, pair, seeded, some_fraction
from lath.errors import LathError, NoRatio
from lath.ratios import minus, order, over, plus, ratio, size, times

HUGE = 10 ** 1999 + 7


def ordinary_and_huge():
    source = seeded(6)
    told = [Fraction(0), Fraction(1), Fraction(-1), Fraction(3, 2), Fraction(-3, 2), Fraction(2, 3)]
    told += [some_fraction(source, 50, 40) for _ in range(25)]
    told += [Fraction(HUGE, 3), Fraction(-3, HUGE), Fraction(-2 ** 200, 3 ** 120), Fraction(2 ** 64)]
    return told


class TestRatio(unittest.TestCase):
    def test_signs_on_either_side(self):
        self.assertEqual(ratio(6, -4), (-3, 2))
        self.assertEqual(ratio(-6, 4), (-3, 2))
        self.assertEqual(ratio(-6, -4), (3, 2))
        self.assertEqual(ratio(6, 4), (3, 2))
        self.assertEqual(ratio(4, -2), (-2, 1))

    def test_nought(self):
        for bottom in (1, 5, -1, -5, HUGE, -HUGE):
            self.assertEqual(ratio(0, bottom), (0, 1))

    def test_common_divisor(self):
        self.assertEqual(ratio(84, 36), (7, 3))
        self.assertEqual(ratio(7, 3), (7, 3))
        self.assertEqual(ratio(36, 36), (1, 1))
        self.assertEqual(ratio(5, 10), (1, 2))

    def test_far_beyond_64_bits(self):
        self.assertEqual(ratio(HUGE * 15, -HUGE * 6), (-5, 2))
        self.assertEqual(ratio(2 ** 300 * 3 ** 5, 2 ** 299 * 3 ** 7), (2, 9))
        self.assertEqual(ratio(2 ** 64 + 1, 2 ** 64), (2 ** 64 + 1, 2 ** 64))

    def test_against_a_second_reckoning(self):
        source = seeded(1)
        for _ in range(500):
            top = source.randint(-60, 60)
            bottom = source.choice([-1, 1]) * source.randint(1, 60)
            told = ratio(top, bottom)
            self.assertTrue(is_lowest(told))
            self.assertEqual(told, pair(Fraction(top, bottom)))

    def test_large_numbers_of_every_make(self):
        source = seeded(7)
        neighbours = (0, 1)
        for _ in range(3000):
            neighbours = (neighbours[1], neighbours[0] + neighbours[1])
        tried = [neighbours, (neighbours[0] * 77, neighbours[1] * 77), (2 ** 900, 2 ** 300 + 1), (2 ** 900, 2 ** 900)]
        for _ in range(300):
            top, bottom, shared = [source.randrange(1, 2 ** source.randint(1, 3000)) for _ in range(3)]
            tried += [(top, bottom), (-top * shared, bottom * shared), (top, top + source.randint(1, 3))]
            tried += [(shared * top, shared), (bottom, -(bottom >> 250) - 1)]
        for top, bottom in tried:
            self.assertEqual(ratio(top, bottom), pair(Fraction(top, bottom)))

    def test_bottom_nought_is_refused_and_a_good_one_taken_behind(self):
        for top in (0, 1, -6, HUGE):
            with self.assertRaises(NoRatio) as caught:
                ratio(top, 0)
            self.assertIsInstance(caught.exception, LathError)
            self.assertEqual(ratio(top, 1), (top, 1))


class TestReckoning(unittest.TestCase):
    def test_against_a_second_reckoning(self):
        numbers = ordinary_and_huge()
        for one in numbers:
            for other in numbers:
                left = pair(one)
                right = pair(other)
                pairs = [
                    (plus(left, right), one + other),
                    (minus(left, right), one - other),
                    (times(left, right), one * other),
                ]
                if other != 0:
                    pairs.append((over(left, right), one / other))
                for told, awaited in pairs:
                    self.assertTrue(is_lowest(told))
                    self.assertEqual(number(told), awaited)

    def test_by_hand(self):
        self.assertEqual(plus((1, 6), (1, 3)), (1, 2))
        self.assertEqual(plus((1, 2), (-1, 2)), (0, 1))
        self.assertEqual(minus((1, 6), (2, 3)), (-1, 2))
        self.assertEqual(minus((5, 7), (5, 7)), (0, 1))
        self.assertEqual(times((-2, 3), (3, 4)), (-1, 2))
        self.assertEqual(times((0, 1), (3, 4)), (0, 1))
        self.assertEqual(over((1, 2), (-3, 4)), (-2, 3))
        self.assertEqual(over((-1, 2), (-1, 4)), (2, 1))
        self.assertEqual(over((0, 1), (-3, 4)), (0, 1))

    def test_over_by_nought_is_refused_and_a_good_one_taken_behind(self):
        for one in ((0, 1), (3, 4), (-3, 4)):
            with self.assertRaises(NoRatio):
                over(one, (0, 1))
            self.assertEqual(over(one, (1, 1)), one)


class TestOrderAndSize(unittest.TestCase):
    def test_order(self):
        numbers = ordinary_and_huge()
        for one in numbers:
            for other in numbers:
                awaited = (one > other) - (one < other)
                self.assertEqual(order(pair(one), pair(other)), awaited)

    def test_order_by_hand(self):
        self.assertEqual(order((1, 3), (1, 2)), -1)
        self.assertEqual(order((-1, 3), (-1, 2)), 1)
        self.assertEqual(order((2, 3), (2, 3)), 0)
        self.assertEqual(order((0, 1), (0, 1)), 0)
        self.assertEqual(order((HUGE, HUGE + 1), (HUGE + 1, HUGE + 2)), -1)

    def test_size(self):
        self.assertEqual(size((-3, 4)), (3, 4))
        self.assertEqual(size((3, 4)), (3, 4))
        self.assertEqual(size((0, 1)), (0, 1))
        self.assertEqual(size((-HUGE, 2)), (HUGE, 2))


if __name__ == "__main__":
    unittest.main()
