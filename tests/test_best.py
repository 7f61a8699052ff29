import unittest
from fractions import Fraction
from itertools import combinations

from helper import is_lowest, number, pair, sample, samples_of, seeded, some_fraction, some_samples
from lath.best import best, worst_off
from lath.threes import stand

HUGE = 10 ** 700 + 9


def offs_of(line, samples):
    return [number(value) - number(line[0]) * moment - number(line[1]) for moment, value in samples]


def greatest_forced(samples):
    return max([abs(number(stand(*three))) / 2 for three in combinations(samples, 3)], default=Fraction(0))


class TestWorstOff(unittest.TestCase):
    def test_no_samples(self):
        self.assertEqual(worst_off(((1, 2), (3, 4)), []), (0, 1))

    def test_in_any_order(self):
        line = ((1, 1), (0, 1))
        samples = [(0, (1, 2)), (1, (-1, 1)), (5, (6, 1))]
        for order in ([0, 1, 2], [2, 1, 0], [1, 0, 2], [2, 0, 1]):
            self.assertEqual(worst_off(line, [samples[place] for place in order]), (2, 1))

    def test_above_and_below(self):
        line = ((0, 1), (0, 1))
        self.assertEqual(worst_off(line, [(0, (1, 2)), (1, (-1, 3))]), (1, 2))
        self.assertEqual(worst_off(line, [(0, (1, 3)), (1, (-1, 2))]), (1, 2))
        self.assertEqual(worst_off(line, [(4, (0, 1))]), (0, 1))

    def test_against_a_second_reckoning(self):
        source = seeded(14)
        for _ in range(200):
            samples = some_samples(source, source.randint(0, 8))
            source.shuffle(samples)
            ahead = list(samples)
            line = (pair(some_fraction(source)), pair(some_fraction(source)))
            told = worst_off(line, samples)
            self.assertTrue(is_lowest(told))
            self.assertEqual(number(told), max([abs(off) for off in offs_of(line, samples)], default=0))
            self.assertEqual(samples, ahead)

    def test_far_beyond_64_bits(self):
        line = ((HUGE, 3), (1, HUGE))
        self.assertEqual(worst_off(line, [(3, (0, 1)), (0, (0, 1))]), pair(HUGE + Fraction(1, HUGE)))


class TestBest(unittest.TestCase):
    def look_at(self, samples):
        ahead = list(samples)
        told = best(samples)
        self.assertEqual(samples, ahead)
        self.assertEqual(best(samples), told)
        self.assertIsInstance(told, tuple)
        line, worst, forced = told
        self.assertTrue(all(is_lowest(part) for part in (line[0], line[1], worst)))
        offs = offs_of(line, samples)
        self.assertEqual(max(abs(off) for off in offs), number(worst))
        if number(worst) == 0:
            self.assertIsNone(forced)
            return told
        self.assertIsInstance(forced, tuple)
        i, j, k = forced
        self.assertTrue(0 <= i < j < k < len(samples))
        sign = 1 if offs[i] > 0 else -1
        self.assertEqual([offs[i], offs[j], offs[k]], [sign * number(worst) * turn for turn in (1, -1, 1)])
        self.assertEqual(abs(number(stand(samples[i], samples[j], samples[k]))), 2 * number(worst))
        return told

    def test_one_sample(self):
        self.assertEqual(self.look_at([(7, (-2, 3))]), (((0, 1), (-2, 3)), (0, 1), None))

    def test_two_samples(self):
        self.assertEqual(self.look_at([(2, (1, 2)), (6, (-5, 2))]), (((-3, 4), (2, 1)), (0, 1), None))
        self.assertEqual(self.look_at([(-1, (1, 2)), (6, (1, 2))]), (((0, 1), (1, 2)), (0, 1), None))

    def test_on_one_line(self):
        for many in (3, 4, 7, 40):
            samples = [sample(place ** 2 - 5, Fraction(2 * place ** 2, 3) + 1) for place in range(many)]
            self.assertEqual(self.look_at(samples), (((2, 3), (13, 3)), (0, 1), None))

    def test_three_samples(self):
        cap = self.look_at([(0, (0, 1)), (1, (2, 1)), (4, (4, 1))])
        self.assertEqual(cap, (((1, 1), (1, 2)), (1, 2), (0, 1, 2)))
        cup = self.look_at([(0, (0, 1)), (1, (0, 1)), (4, (4, 1))])
        self.assertEqual(cup, (((1, 1), (-1, 2)), (1, 2), (0, 1, 2)))

    def test_by_hand(self):
        self.assertEqual(self.look_at(samples_of([0, 1, 0, 1]))[0:2], (((0, 1), (1, 2)), (1, 2)))
        self.assertEqual(self.look_at(samples_of([0, 0, 0, 0, 1])), (((1, 4), (-3, 8)), (3, 8), (0, 3, 4)))
        self.assertEqual(self.look_at(samples_of([1, 0, 0, 0, 0])), (((-1, 4), (5, 8)), (3, 8), (0, 1, 4)))
        self.assertEqual(self.look_at(samples_of([0, 0, 6, 0, 0]))[0:2], (((0, 1), (3, 1)), (3, 1)))

    def test_one_sample_off_a_line(self):
        for many in (3, 4, 5, 9):
            for odd in range(many):
                for shift in (1, -1):
                    samples = samples_of([place * 2 + (shift if place == odd else 0) for place in range(many)])
                    worst = self.look_at(samples)[1]
                    self.assertEqual(number(worst), greatest_forced(samples))

    def test_every_small_list(self):
        for many in (3, 4, 5):
            for code in range(3 ** many):
                samples = samples_of([code // 3 ** place % 3 for place in range(many)], -1)
                worst = self.look_at(samples)[1]
                self.assertEqual(number(worst), greatest_forced(samples))

    def test_against_all_threes(self):
        source = seeded(15)
        for _ in range(300):
            samples = some_samples(source, source.randint(3, 9), source.choice([2, 9, 1000]), source.choice([1, 6]), 9)
            worst = self.look_at(samples)[1]
            self.assertEqual(number(worst), greatest_forced(samples))

    def test_no_other_line_does_as_well(self):
        source = seeded(16)
        steps = [Fraction(0), Fraction(1, 7), Fraction(-1, 7), Fraction(1, 10 ** 9), Fraction(-1, 10 ** 9)]
        for _ in range(60):
            samples = some_samples(source, source.randint(2, 8))
            line, worst, _ = self.look_at(samples)
            for tilt in steps:
                for lift in steps:
                    other = (pair(number(line[0]) + tilt), pair(number(line[1]) + lift))
                    if other != line:
                        self.assertGreater(number(worst_off(other, samples)), number(worst))

    def test_forty_samples(self):
        source = seeded(17)
        curves = [
            [place ** 2 for place in range(40)],
            [-place ** 3 for place in range(40)],
            [(-1) ** place * place for place in range(40)],
            [(-1) ** place * (40 - place) ** 2 for place in range(40)],
            [place % 7 for place in range(40)],
        ]
        for values in curves:
            self.look_at(samples_of(values, -17))
        for step in (1, 50, 10 ** 30):
            self.look_at(some_samples(source, 40, 10 ** 6, 30, step))

    def test_far_beyond_64_bits(self):
        source = seeded(18)
        for _ in range(10):
            self.look_at(some_samples(source, 12, 10 ** 120, 10 ** 120, 10 ** 80))
        self.look_at(some_samples(source, 40, 10 ** 200, 10 ** 200, 10 ** 200))
        self.look_at(some_samples(source, 6, HUGE ** 2, HUGE ** 2, HUGE))

    def test_whose_list(self):
        samples = samples_of([0, 2, 1])
        told = best(samples)
        samples[1] = (1, (0, 1))
        self.assertNotEqual(best(samples), told)
        self.assertEqual(best(samples_of([0, 2, 1])), told)


if __name__ == "__main__":
    unittest.main()
