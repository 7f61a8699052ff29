import unittest
from fractions import Fraction

from helper import is_lowest, number, pair, sample, seeded, some_fraction, some_samples
from lath.lines import height, line_by, meet, off, slope

HUGE = 10 ** 700 + 9


class TestLines(unittest.TestCase):
    def test_slope_in_either_order(self):
        one = (2, (1, 2))
        other = (6, (-5, 2))
        self.assertEqual(slope(one, other), (-3, 4))
        self.assertEqual(slope(other, one), (-3, 4))
        self.assertEqual(slope((-1, (1, 3)), (1, (1, 3))), (0, 1))
        self.assertEqual(slope((1, (1, 3)), (-1, (1, 3))), (0, 1))
        self.assertEqual(slope((0, (0, 1)), (1, (2, 3))), (2, 3))

    def test_line_by(self):
        self.assertEqual(line_by((3, 4), (2, (1, 2))), ((3, 4), (-1, 1)))
        self.assertEqual(line_by((0, 1), (7, (-1, 3))), ((0, 1), (-1, 3)))
        self.assertEqual(line_by((-2, 3), (-3, (1, 1))), ((-2, 3), (-1, 1)))
        self.assertEqual(line_by((5, 7), (0, (1, 2))), ((5, 7), (1, 2)))

    def test_height_at_a_fraction(self):
        self.assertEqual(height(((3, 4), (-1, 1)), (2, 3)), (-1, 2))
        self.assertEqual(height(((3, 4), (-1, 1)), (0, 1)), (-1, 1))
        self.assertEqual(height(((3, 4), (-1, 1)), (-4, 1)), (-4, 1))
        self.assertEqual(height(((0, 1), (5, 6)), (7, 9)), (5, 6))

    def test_off_above_on_and_below(self):
        line = ((1, 2), (1, 1))
        self.assertEqual(off(line, (3, (3, 1))), (1, 2))
        self.assertEqual(off(line, (3, (5, 2))), (0, 1))
        self.assertEqual(off(line, (3, (2, 1))), (-1, 2))
        self.assertEqual(off(line, (-4, (0, 1))), (1, 1))

    def test_meet(self):
        self.assertEqual(meet(((1, 1), (0, 1)), ((-1, 1), (1, 1))), ((1, 2), (1, 2)))
        self.assertEqual(meet(((-1, 1), (1, 1)), ((1, 1), (0, 1))), ((1, 2), (1, 2)))
        self.assertEqual(meet(((1, 2), (1, 3)), ((0, 1), (1, 3))), ((0, 1), (1, 3)))
        self.assertIsNone(meet(((1, 2), (1, 3)), ((1, 2), (2, 3))))
        self.assertIsNone(meet(((1, 2), (1, 3)), ((1, 2), (1, 3))))

    def test_against_a_second_reckoning(self):
        source = seeded(11)
        for _ in range(400):
            one, other = some_samples(source, 2)
            steep = (number(other[1]) - number(one[1])) / (other[0] - one[0])
            for told in (slope(one, other), slope(other, one)):
                self.assertTrue(is_lowest(told))
                self.assertEqual(number(told), steep)
            line = line_by(slope(one, other), one)
            self.assertEqual(line, line_by(slope(one, other), other))
            self.assertTrue(is_lowest(line[1]))
            when = some_fraction(source)
            told = height(line, pair(when))
            self.assertTrue(is_lowest(told))
            self.assertEqual(number(told), number(one[1]) + steep * (when - one[0]))
            third = sample(source.randint(-9, 9), some_fraction(source))
            told = off(line, third)
            self.assertTrue(is_lowest(told))
            self.assertEqual(number(told), number(third[1]) - number(height(line, (third[0], 1))))
            self.assertEqual(off(line, one), (0, 1))
            self.assertEqual(off(line, other), (0, 1))

    def test_meet_against_both_heights(self):
        source = seeded(12)
        for _ in range(400):
            line = (pair(some_fraction(source, 3, 3)), pair(some_fraction(source)))
            other = (pair(some_fraction(source, 3, 3)), pair(some_fraction(source)))
            told = meet(line, other)
            if line[0] == other[0]:
                self.assertIsNone(told)
                continue
            self.assertIsInstance(told, tuple)
            self.assertTrue(is_lowest(told[0]) and is_lowest(told[1]))
            self.assertEqual(height(line, told[0]), told[1])
            self.assertEqual(height(other, told[0]), told[1])
            self.assertEqual(meet(other, line), told)

    def test_far_beyond_64_bits(self):
        one = sample(-HUGE, Fraction(1, HUGE))
        other = sample(HUGE, Fraction(HUGE, 3))
        steep = slope(one, other)
        self.assertTrue(is_lowest(steep))
        self.assertEqual(number(steep), (Fraction(HUGE, 3) - Fraction(1, HUGE)) / (2 * HUGE))
        self.assertEqual(slope(other, one), steep)
        line = line_by(steep, one)
        self.assertEqual(height(line, (HUGE, 1)), other[1])
        self.assertEqual(off(line, other), (0, 1))
        self.assertEqual(meet(line, line_by((0, 1), other)), ((HUGE, 1), other[1]))


if __name__ == "__main__":
    unittest.main()
