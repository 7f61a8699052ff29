import unittest
from fractions import Fraction
from itertools import combinations

from helper import is_borne, is_lowest, number, pair, sample, samples_of, seeded, some_fraction, some_samples
from lath.best import best
from lath.stretches import Stretch, stretches

HUGE = 10 ** 300 + 7
HAIR = Fraction(1, 10 ** 200)
SOME_BOUNDS = [Fraction(0), Fraction(1, 3), Fraction(1), Fraction(5, 2), Fraction(4)]


def bearing_corners(samples, bound):
    """The lines (slope, height) through two ends, of unlike samples, that bear all of them."""
    bound = number(bound)
    ends = [(moment, number(value) + side) for moment, value in samples for side in (bound, -bound)]
    told = []
    for one, other in combinations(ends, 2):
        if one[0] != other[0]:
            steep = (other[1] - one[1]) / (other[0] - one[0])
            base = one[1] - steep * one[0]
            if all(abs(number(value) - steep * moment - base) <= bound for moment, value in samples):
                told.append((steep, base))
    return told


def taken(bound, samples):
    stretch = Stretch(bound)
    for given in samples:
        stretch.takes(given)
    return stretch


class TestStretch(unittest.TestCase):
    def test_takes_and_kept(self):
        stretch = Stretch((1, 2))
        self.assertEqual(stretch.kept(), [])
        self.assertIs(stretch.takes((0, (0, 1))), True)
        self.assertIs(stretch.takes((1, (2, 1))), True)
        self.assertIs(stretch.takes((4, (3, 1))), False)
        self.assertEqual(stretch.kept(), [(0, (0, 1)), (1, (2, 1))])
        self.assertIs(stretch.takes((4, (4, 1))), True)
        self.assertEqual(stretch.kept(), [(0, (0, 1)), (1, (2, 1)), (4, (4, 1))])

    def test_a_refused_one_leaves_all_as_it_was(self):
        stretch = taken((1, 2), samples_of([0, 1, 3]))
        ahead = (stretch.kept(), stretch.slopes(), stretch.room(9))
        for value in (-50, 50, Fraction(99, 7)):
            self.assertIs(stretch.takes(sample(3, value)), False)
            self.assertEqual((stretch.kept(), stretch.slopes(), stretch.room(9)), ahead)
        self.assertIs(stretch.takes((3, (4, 1))), True)

    def test_an_earlier_moment_than_a_refused_one(self):
        stretch = taken((0, 1), samples_of([0, 1]))
        self.assertIs(stretch.takes((9, (0, 1))), False)
        self.assertIs(stretch.takes((5, (5, 1))), True)
        self.assertIs(stretch.takes((9, (9, 1))), True)

    def test_kept_is_a_new_list_each_time(self):
        stretch = taken((1, 1), samples_of([0, 1, 2]))
        first = stretch.kept()
        first.clear()
        second = stretch.kept()
        second.append((9, (9, 1)))
        self.assertEqual(stretch.kept(), samples_of([0, 1, 2]))
        third = stretch.kept()
        self.assertIs(stretch.takes((3, (3, 1))), True)
        self.assertEqual(third, samples_of([0, 1, 2]))

    def test_fewer_than_two(self):
        stretch = Stretch((1, 2))
        self.assertEqual(stretch.slopes(), (None, None))
        self.assertEqual(stretch.room(0), (None, None))
        stretch.takes((3, (5, 1)))
        self.assertEqual(stretch.slopes(), (None, None))
        self.assertEqual(stretch.room(4), (None, None))

    def test_slopes_and_room_of_two(self):
        stretch = taken((1, 2), [(0, (0, 1)), (2, (1, 1))])
        self.assertEqual(stretch.slopes(), ((0, 1), (1, 1)))
        self.assertEqual(stretch.room(4), ((0, 1), (4, 1)))
        self.assertEqual(stretch.room(3), ((0, 1), (3, 1)))

    def test_slopes_and_room_of_more(self):
        stretch = taken((1, 1), samples_of([0, 0, 3]))
        self.assertEqual(stretch.slopes(), ((1, 1), (2, 1)))
        self.assertEqual(stretch.room(3), ((2, 1), (6, 1)))

    def test_bound_nought(self):
        stretch = taken((0, 1), [(0, (1, 3)), (3, (4, 3))])
        self.assertEqual(stretch.slopes(), ((1, 3), (1, 3)))
        self.assertEqual(stretch.room(5), ((2, 1), (2, 1)))
        self.assertIs(stretch.takes(sample(5, 2 + HAIR)), False)
        self.assertIs(stretch.takes(sample(5, 2 - HAIR)), False)
        self.assertIs(stretch.takes((5, (2, 1))), True)
        self.assertEqual(stretch.slopes(), ((1, 3), (1, 3)))

    def test_just_at_the_bound(self):
        for values in ([0, 2, 0], [0, -2, 0]):
            self.assertEqual(taken((1, 1), samples_of(values)).kept(), samples_of(values))
            tight = taken(pair(1 - HAIR), samples_of(values))
            self.assertEqual(tight.kept(), samples_of(values[:2]))

    def test_ends_of_room_are_taken_and_what_lies_beyond_is_not(self):
        source = seeded(19)
        for _ in range(150):
            bound = pair(source.choice(SOME_BOUNDS))
            samples = taken(bound, some_samples(source, source.randint(2, 7), 5, 4)).kept()
            moment = samples[-1][0] + source.randint(1, 5)
            lowest, highest = taken(bound, samples).room(moment)
            self.assertTrue(is_lowest(lowest) and is_lowest(highest))
            low = number(lowest)
            high = number(highest)
            for value in (low, high, (low + high) / 2):
                self.assertIs(taken(bound, samples).takes(sample(moment, value)), True)
            for value in (low - HAIR, high + HAIR, low - 1, high + 1):
                self.assertIs(taken(bound, samples).takes(sample(moment, value)), False)

    def test_against_a_second_reckoning(self):
        source = seeded(20)
        for _ in range(120):
            bound = pair(source.choice(SOME_BOUNDS))
            stretch = Stretch(bound)
            kept = []
            for given in some_samples(source, 8, 5, 3):
                awaited = is_borne(kept + [given], bound)
                self.assertIs(stretch.takes(given), awaited)
                if awaited:
                    kept.append(given)
                self.assertEqual(stretch.kept(), kept)
                if len(kept) >= 2:
                    self.look_at_corners(stretch, kept, bound, given[0] + source.randint(1, 4))

    def look_at_corners(self, stretch, kept, bound, moment):
        corners = bearing_corners(kept, bound)
        steeps = [steep for steep, base in corners]
        heights = [steep * moment + base for steep, base in corners]
        self.assertEqual(stretch.slopes(), (pair(min(steeps)), pair(max(steeps))))
        room = (pair(min(heights) - number(bound)), pair(max(heights) + number(bound)))
        self.assertEqual(stretch.room(moment), room)

    def test_several_side_by_side(self):
        one = Stretch((0, 1))
        other = Stretch((3, 1))
        again = Stretch((0, 1))
        for given in samples_of([0, 1, 5, 3]):
            one.takes(given)
            other.takes(given)
        self.assertEqual(one.kept(), samples_of([0, 1]) + [(3, (3, 1))])
        self.assertEqual(other.kept(), samples_of([0, 1, 5, 3]))
        self.assertEqual(again.kept(), [])
        self.assertIs(again.takes((0, (9, 1))), True)
        self.assertEqual(one.slopes(), ((1, 1), (1, 1)))

    def test_far_beyond_64_bits(self):
        bound = (1, HUGE)
        samples = [(-HUGE, (HUGE, 3)), (0, (0, 1)), (HUGE, pair(Fraction(-HUGE, 3) + Fraction(4, HUGE)))]
        stretch = taken(bound, samples)
        self.assertEqual(stretch.kept(), samples)
        self.assertTrue(all(is_lowest(part) for part in stretch.slopes()))
        self.look_at_corners(stretch, samples, bound, 3 * HUGE)
        beyond = samples[:2] + [(HUGE, pair(Fraction(-HUGE, 3) + Fraction(4, HUGE) + HAIR))]
        self.assertEqual(taken(bound, beyond).kept(), beyond[:2])

    def test_forty_samples_at_the_least_bound(self):
        source = seeded(21)
        for step in (1, 9, 10 ** 25):
            samples = some_samples(source, 40, 10 ** 4, 12, step)
            worst = best(samples)[1]
            self.assertEqual(taken(worst, samples).kept(), samples)
            slopes = taken(worst, samples).slopes()
            self.assertEqual(slopes, (best(samples)[0][0], best(samples)[0][0]))
            self.assertNotEqual(taken(pair(number(worst) - HAIR), samples).kept(), samples)


class TestStretches(unittest.TestCase):
    def test_no_samples(self):
        self.assertEqual(stretches([], (0, 1)), [])
        self.assertEqual(stretches([], (5, 2)), [])

    def test_one_and_two_samples(self):
        self.assertEqual(stretches([(3, (1, 2))], (0, 1)), [[(3, (1, 2))]])
        self.assertEqual(stretches(samples_of([0, 9]), (0, 1)), [samples_of([0, 9])])

    def test_by_hand(self):
        samples = samples_of([0, 1, 2, 0, 0, 0, 5])
        self.assertEqual(stretches(samples, (0, 1)), [samples[:3], samples[3:6], samples[6:]])
        self.assertEqual(stretches(samples, (1, 1)), [samples[:6], samples[6:]])
        self.assertEqual(stretches(samples, (9, 1)), [samples])

    def look_at(self, samples, bound):
        ahead = list(samples)
        told = stretches(samples, bound)
        self.assertEqual(samples, ahead)
        self.assertEqual([given for stretch in told for given in stretch], samples)
        for place, stretch in enumerate(told):
            self.assertGreater(len(stretch), 0)
            self.assertTrue(is_borne(stretch, bound))
            if place + 1 < len(told):
                self.assertFalse(is_borne(stretch + told[place + 1][:1], bound))

    def test_against_a_second_reckoning(self):
        source = seeded(22)
        for _ in range(150):
            samples = some_samples(source, source.randint(0, 14), 5, source.choice([1, 4]))
            self.look_at(samples, pair(source.choice(SOME_BOUNDS + [abs(some_fraction(source))])))

    def test_forty_samples(self):
        source = seeded(23)
        for bound in ((0, 1), (1, 2), (3, 1), (6, 1)):
            self.look_at(some_samples(source, 40), bound)
        self.look_at(some_samples(source, 12, 10 ** 100, 10 ** 50, 10 ** 60), (10 ** 99, 7))

    def test_whose_lists(self):
        samples = samples_of([0, 1, 0, 1, 5])
        awaited = stretches(samples, (0, 1))
        told = stretches(samples, (0, 1))
        told[0].clear()
        told[1].append("more")
        told.pop()
        self.assertEqual(samples, samples_of([0, 1, 0, 1, 5]))
        self.assertEqual(stretches(samples, (0, 1)), awaited)
        samples.clear()
        self.assertEqual([given for stretch in awaited for given in stretch], samples_of([0, 1, 0, 1, 5]))
        alone = samples_of([0, 1, 2])
        whole = stretches(alone, (0, 1))
        alone.append((3, (3, 1)))
        self.assertEqual(whole, [samples_of([0, 1, 2])])


if __name__ == "__main__":
    unittest.main()
