import unittest
from fractions import Fraction
from itertools import combinations

from helper import (
    fewest_parts, fewest_ties, is_good, is_lowest, number, pair, sample, samples_of, seeded, some_fraction,
    some_samples, stand_of,
)
from lath.chords import bars, farthest, labels

SOME_BOUNDS = [Fraction(0), Fraction(1, 3), Fraction(1), Fraction(5, 2), Fraction(4)]
HAIR = Fraction(1, 10 ** 200)


class TestFarthest(unittest.TestCase):
    def test_none_between(self):
        self.assertIsNone(farthest(samples_of([0, 9]), 0, 1))
        self.assertIsNone(farthest(samples_of([0, 9, 4, 4]), 2, 3))

    def test_one_between(self):
        self.assertEqual(farthest(samples_of([0, 9, 0]), 0, 2), (1, (9, 1)))
        self.assertEqual(farthest(samples_of([0, -9, 0]), 0, 2), (1, (9, 1)))
        self.assertEqual(farthest([sample(0, 0), sample(1, Fraction(1, 2)), sample(3, 1)], 0, 2), (1, (1, 6)))

    def test_of_equal_ones_the_earliest(self):
        self.assertEqual(farthest(samples_of([0, 3, 3, 3, 0]), 0, 4), (1, (3, 1)))
        self.assertEqual(farthest(samples_of([0, 1, -3, 3, -3, 0]), 0, 5), (2, (3, 1)))
        self.assertEqual(farthest(samples_of([0, 2, 4 - 6, 6 + 2, 8]), 0, 4), (2, (6, 1)))

    def test_flat_ones(self):
        self.assertEqual(farthest(samples_of([1, 2, 3, 4]), 0, 3), (1, (0, 1)))
        self.assertEqual(farthest(samples_of([5, 1, 2, 3, 9]), 1, 3), (2, (0, 1)))

    def test_samples_outside_are_not_looked_at(self):
        samples = samples_of([99, 0, 1, 0, -99])
        self.assertEqual(farthest(samples, 1, 3), (2, (1, 1)))

    def test_against_a_second_reckoning(self):
        source = seeded(61)
        for _ in range(150):
            large = source.random() < 0.1
            samples = some_samples(source, source.randint(2, 9), 10 ** 90 if large else 6, 10 ** 40 if large else 4)
            for first, last in combinations(range(len(samples)), 2):
                told = farthest(samples, first, last)
                sizes = [abs(stand_of(samples[first], mid, samples[last])) for mid in samples[first + 1:last]]
                if not sizes:
                    self.assertIsNone(told)
                    continue
                self.assertEqual(told, (first + 1 + sizes.index(max(sizes)), pair(max(sizes))))
                self.assertTrue(is_lowest(told[1]))


class TestLabels(unittest.TestCase):
    def test_one_and_two_samples(self):
        self.assertEqual(labels([(3, (1, 2))], (0, 1), True), [0])
        self.assertEqual(labels([(3, (1, 2))], (0, 1), False), [0, 1])
        self.assertEqual(labels(samples_of([0, 9]), (0, 1), True), [0, 1])
        self.assertEqual(labels(samples_of([0, 9]), (0, 1), False), [0, 1, 1])

    def test_by_hand(self):
        samples = samples_of([0, 1, 2, 0, 0, 0, 5])
        self.assertEqual(labels(samples, (0, 1), True), [0, 1, 1, 2, 3, 3, 4])
        self.assertEqual(labels(samples, (0, 1), False), [0, 1, 1, 1, 2, 2, 2, 3])
        self.assertEqual(labels(samples, (9, 1), True), [0, 1, 1, 1, 1, 1, 1])
        self.assertEqual(labels(samples, (9, 1), False), [0, 1, 1, 1, 1, 1, 1, 1])

    def test_just_at_the_bound(self):
        samples = samples_of([0, 2, 0])
        self.assertEqual(labels(samples, (2, 1), True), [0, 1, 1])
        self.assertEqual(labels(samples, pair(2 - HAIR), True), [0, 1, 2])
        self.assertEqual(labels(samples, (2, 1), False), [0, 1, 1, 1])
        self.assertEqual(labels(samples, pair(2 - HAIR), False), [0, 1, 1, 2])

    def test_a_label_may_be_less_than_one_ahead(self):
        # From 0 to 2 and to 3 no piece leads, but the long one to the sample at 4 passes all between within the bound.
        samples = samples_of([0, 1, -1, 1, 0])
        self.assertEqual(labels(samples, (1, 1), True), [0, 1, 2, 3, 1])
        self.assertEqual(labels(samples, (1, 1), False), [0, 1, 1, 2, 2, 1])

    def look_at(self, samples, bound):
        tied = labels(samples, bound, True)
        loose = labels(samples, bound, False)
        self.assertIsInstance(tied, list)
        self.assertIsInstance(loose, list)
        for end in range(1, len(samples)):
            self.assertEqual(tied[end], fewest_ties(samples[:end + 1], bound))
        awaited = [fewest_parts(samples[:end], bound, is_good) for end in range(len(samples) + 1)]
        self.assertEqual(loose, awaited)
        self.assertEqual(tied[0], 0)
        self.assertEqual(len(tied), len(samples))
        self.look_at_bars(samples, bound, True, tied)
        self.look_at_bars(samples, bound, False, loose)

    def look_at_bars(self, samples, bound, tied, told):
        awaited = []
        for first, last in combinations(range(len(told)), 2):
            if told[last] - told[first] > 1:
                end = last if tied else last - 1
                mid = samples[farthest(samples, first, end)[0]]
                self.assertGreater(abs(stand_of(samples[first], mid, samples[end])), number(bound))
                awaited.append((samples[first][0], mid[0], samples[end][0]))
        self.assertEqual(bars(samples, bound, tied), awaited)

    def test_against_a_search_over_all_ways(self):
        source = seeded(62)
        for _ in range(120):
            samples = some_samples(source, source.randint(1, 8), 6, source.choice([1, 4]))
            self.look_at(samples, pair(source.choice(SOME_BOUNDS + [abs(some_fraction(source))])))

    def test_large_numbers(self):
        source = seeded(63)
        for figures in (30, 150):
            samples = some_samples(source, 7, 10 ** figures, 10 ** (figures // 2), 10 ** figures)
            self.look_at(samples, (10 ** figures, 7))
            self.look_at(samples, (1, 10 ** figures))
        huge = 10 ** 1999
        self.look_at([sample(-huge, huge), sample(0, Fraction(1, huge)), sample(huge, huge), sample(huge + 1, 0)], (1, 2))

    def test_forty_samples(self):
        source = seeded(64)
        for bound in ((0, 1), (4, 1), (12, 1)):
            samples = some_samples(source, 40)
            for tied in (True, False):
                told = labels(samples, bound, tied)
                self.assertEqual(len(told), 40 if tied else 41)
                self.look_at_steps(samples, bound, tied, told)
                self.look_at_bars(samples, bound, tied, told)

    def look_at_steps(self, samples, bound, tied, told):
        for last in range(1, len(told)):
            end = last + 1 if tied else last
            ahead = [told[first] for first in range(last) if is_good(samples[first:end], bound)]
            self.assertEqual(told[last], 1 + min(ahead))


class TestBars(unittest.TestCase):
    def test_none(self):
        self.assertEqual(bars([(3, (1, 2))], (0, 1), True), [])
        self.assertEqual(bars([(3, (1, 2))], (0, 1), False), [])
        self.assertEqual(bars(samples_of([0, 9, 0]), (9, 1), True), [])

    def test_by_hand(self):
        samples = [sample(1, 0), sample(2, 5), sample(4, 0), sample(7, 9)]
        self.assertEqual(labels(samples, (0, 1), True), [0, 1, 2, 3])
        self.assertEqual(bars(samples, (0, 1), True), [(1, 2, 4), (1, 4, 7), (2, 4, 7)])
        self.assertEqual(labels(samples, (0, 1), False), [0, 1, 1, 2, 2])
        self.assertEqual(bars(samples, (0, 1), False), [(1, 2, 4), (1, 4, 7)])

    def test_whose_lists(self):
        samples = samples_of([0, 1, 2, 0, 0, 0, 5])
        ahead = list(samples)
        for tied in (True, False):
            told_labels = labels(samples, (0, 1), tied)
            told_bars = bars(samples, (0, 1), tied)
            farthest(samples, 0, 6)
            self.assertEqual(samples, ahead)
            awaited = (list(told_labels), list(told_bars))
            told_labels.clear()
            told_bars.append("more")
            self.assertEqual((labels(samples, (0, 1), tied), bars(samples, (0, 1), tied)), awaited)
        kept = labels(samples, (0, 1), True)
        samples.clear()
        self.assertEqual(kept, [0, 1, 1, 2, 3, 3, 4])


if __name__ == "__main__":
    unittest.main()
