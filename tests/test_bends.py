import unittest
from fractions import Fraction
from itertools import combinations

from helper import is_lowest, number, pair, sample, samples_of, seeded, some_fraction, some_samples
from lath.bends import Bend
from lath.threes import kind, pinched

HAIR = Fraction(1, 10 ** 200)
SOME_BOUNDS = [Fraction(0), Fraction(1, 3), Fraction(1), Fraction(3, 2), Fraction(3)]


def corners(below, above, bound):
    """The lines through two of the ends, of unlike moments, that lie at or above all low ends of the samples
    below and at or below all high ends of the samples above."""
    lows = [(moment, number(value) - bound) for moment, value in below]
    highs = [(moment, number(value) + bound) for moment, value in above]
    told = []
    for one, other in combinations(lows + highs, 2):
        if one[0] != other[0]:
            steep = (other[1] - one[1]) / (other[0] - one[0])
            base = one[1] - steep * one[0]
            over = all(steep * moment + base >= low for moment, low in lows)
            if over and all(steep * moment + base <= high for moment, high in highs):
                told.append((steep, base))
    return told


class SlowBend:
    """The links by their words (20, 21) alone, over the corners of what is held."""

    def __init__(self, bound):
        self.bound = number(bound)
        self.below = []
        self.above = []

    def corners(self):
        return corners(self.below, self.above, self.bound)

    def take(self, given):
        """None, or the kind of the end, the line, and the samples that held the link from below and above."""
        below = self.below + [given]
        above = self.above + [given]
        if len(below) == 1 or corners(below, above, self.bound):
            self.below = below
            self.above = above
            return None
        heights = [steep * given[0] + base for steep, base in self.corners()]
        if all(found > number(given[1]) + self.bound for found in heights):
            return self.ended("cap", given)
        assert all(found < number(given[1]) - self.bound for found in heights)
        return self.ended("cup", given)

    def ended(self, told, given):
        held = (list(self.below), list(self.above))
        line = min(self.corners()) if told == "cap" else max(self.corners())
        lift = -self.bound if told == "cap" else self.bound
        holding = self.below if told == "cap" else self.above
        last = [place for place, (moment, value) in enumerate(holding)
                if number(value) + lift == line[0] * moment + line[1]][-1]
        kept = holding[last:] + [given]
        self.below = kept if told == "cap" else [given]
        self.above = [given] if told == "cap" else kept
        return (told, line, held[0], held[1])

    def has_least(self):
        return any(high[0] < low[0] for low in self.below for high in self.above)

    def has_greatest(self):
        return any(low[0] < high[0] for low in self.below for high in self.above)

    def line_now(self):
        if not self.below:
            return None
        if not self.has_least() and not self.has_greatest():
            return ((0, 1), self.below[0][1])
        line = min(self.corners()) if self.has_least() else max(self.corners())
        return (pair(line[0]), pair(line[1]))

    def room(self, moment):
        heights = [steep * moment + base for steep, base in self.corners()]
        lowest = pair(min(heights) - self.bound) if self.has_least() else None
        highest = pair(max(heights) + self.bound) if self.has_greatest() else None
        return (lowest, highest)


def walked(bound, samples):
    bend = Bend(bound)
    for given in samples:
        bend.take(given)
    return bend


def ends(bound, samples):
    bend = Bend(bound)
    return [bend.take(given) for given in samples]


class TestBend(unittest.TestCase):
    def test_nothing_one_and_two(self):
        bend = Bend((1, 2))
        self.assertIsNone(bend.line_now())
        self.assertEqual(bend.room(3), (None, None))
        self.assertIsNone(bend.take((2, (5, 3))))
        self.assertEqual(bend.line_now(), ((0, 1), (5, 3)))
        self.assertEqual(bend.room(3), (None, None))
        self.assertIsNone(bend.take((4, (8, 3))))
        # From the high end of the first, 13/6, to the low end of the second, 13/6.
        self.assertEqual(bend.line_now(), ((0, 1), (13, 6)))
        self.assertEqual(bend.room(6), ((5, 3), (17, 3)))

    def test_a_link_that_ends_in_a_cap(self):
        bend = walked((1, 2), samples_of([0, 2]))
        # The least slope leads from 1/2 at 0 to 3/2 at 1; behind it, at 2, lies 5/2.
        self.assertEqual(bend.line_now(), ((1, 1), (1, 2)))
        self.assertEqual(bend.room(2), ((2, 1), (6, 1)))
        told = bend.take((2, (1, 1)))
        self.assertEqual(told, (((1, 1), (1, 2)), (0, 1, 2)))
        # Held from below by the samples at 1 and 2, from above by that at 2: no least slope.
        self.assertEqual(bend.line_now(), ((0, 1), (3, 2)))
        self.assertEqual(bend.room(3), (None, (2, 1)))
        self.assertIsNone(bend.take((3, (2, 1))))
        self.assertEqual(bend.line_now(), ((0, 1), (3, 2)))
        self.assertEqual(bend.room(4), ((1, 1), (2, 1)))

    def test_a_link_that_ends_in_a_cup(self):
        bend = walked((1, 2), samples_of([0, -2]))
        self.assertEqual(bend.room(2), ((-6, 1), (-2, 1)))
        told = bend.take((2, (-1, 1)))
        self.assertEqual(told, (((-1, 1), (-1, 2)), (0, 1, 2)))
        # Held from above by the samples at 1 and 2, from below by that at 2: a least slope alone.
        self.assertEqual(bend.line_now(), ((0, 1), (-3, 2)))
        self.assertEqual(bend.room(3), ((-2, 1), None))
        self.assertIsNone(bend.take((3, (7, 1))))
        self.assertEqual(bend.line_now(), ((7, 1), (-29, 2)))
        self.assertEqual(bend.room(4), ((13, 1), (17, 1)))

    def test_the_last_sample_touched_holds_the_next_link(self):
        # With bound nought all of the first four lie on the link; the last of them holds the next one.
        bend = walked((0, 1), samples_of([0, 1, 2, 3]))
        told = bend.take((4, (0, 1)))
        self.assertEqual(told[0], ((1, 1), (0, 1)))
        self.assertEqual(told[1][2], 4)
        self.assertEqual(bend.room(5), (None, (-3, 1)))
        self.assertEqual(bend.line_now(), ((-3, 1), (12, 1)))

    def test_a_sample_between_holds_the_next_link_too(self):
        # The link's line from 1 at 0 to 9 at 2 touches the low ends at 2; the low end at 3 lies below it.
        bend = walked((1, 1), samples_of([0, 4, 10, 13]))
        self.assertEqual(bend.line_now(), ((4, 1), (1, 1)))
        self.assertEqual(bend.take((4, (5, 1)))[0], ((4, 1), (1, 1)))
        # Of the slopes from 9 at 2 and from 12 at 3 to the high end 6 at 4 the lesser one binds.
        self.assertEqual(bend.line_now(), ((-6, 1), (30, 1)))
        self.assertEqual(bend.room(5), (None, (1, 1)))

    def test_caps_and_cups_behind_one_another(self):
        caps = ends((0, 1), samples_of([0, 4, 7, 9, 10]))
        self.assertEqual([told is None for told in caps], [True, True, False, True, False])
        cups = ends((0, 1), samples_of([0, -4, -7, -9, -10]))
        self.assertEqual([told is None for told in cups], [True, True, False, True, False])
        mixed = ends((0, 1), samples_of([0, 4, 0, 4, 0, 4]))
        self.assertEqual(mixed[2], (((4, 1), (0, 1)), (0, 1, 2)))
        self.assertIsNotNone(mixed[3])
        self.assertEqual(kind(*[(moment, (4 * (moment % 2), 1)) for moment in mixed[3][1]]), "cup")

    def look_at(self, bound, samples, source):
        bend = Bend(bound)
        slow = SlowBend(bound)
        by_moment = dict(samples)
        seen = []
        for place, given in enumerate(samples):
            told = bend.take(given)
            awaited = slow.take(given)
            self.assertEqual(told is None, awaited is None)
            if told is not None:
                seen.append(awaited[0])
                self.look_at_end(told, awaited, by_moment, given, bound)
            moment = given[0] + source.randint(1, 4)
            self.assertEqual(bend.line_now(), slow.line_now())
            self.assertEqual(bend.room(moment), slow.room(moment) if place > 0 else (None, None))
        return seen

    def look_at_end(self, told, awaited, by_moment, given, bound):
        end, line, below, above = awaited
        self.assertIsInstance(told, tuple)
        self.assertEqual(told[0], (pair(line[0]), pair(line[1])))
        self.assertIsInstance(told[1], tuple)
        self.assertEqual(told[1][2], given[0])
        self.assertTrue(told[1][0] < told[1][1] < told[1][2])
        three = [(moment, by_moment[moment]) for moment in told[1]]
        self.assertEqual(kind(*three), end)
        self.assertTrue(pinched(*three, bound))
        self.assertIn(three[0], above if end == "cap" else below)
        self.assertIn(three[1], below if end == "cap" else above)

    def test_against_a_second_reckoning(self):
        source = seeded(41)
        pairs = []
        for _ in range(200):
            samples = some_samples(source, source.randint(0, 12), 6, source.choice([1, 4]))
            bound = pair(source.choice(SOME_BOUNDS + [abs(some_fraction(source))]))
            seen = self.look_at(bound, samples, source)
            pairs += list(zip(seen, seen[1:]))
        for awaited in [("cap", "cap"), ("cap", "cup"), ("cup", "cap"), ("cup", "cup")]:
            self.assertIn(awaited, pairs)

    def test_long_slow_bends(self):
        source = seeded(42)
        for sign in (1, -1):
            samples = [sample(3 * place, sign * place * place) for place in range(14)]
            seen = self.look_at((1, 1), samples, source)
            self.assertGreater(len(seen), 1)
            self.assertEqual(set(seen), {"cup" if sign > 0 else "cap"})

    def test_forty_samples(self):
        source = seeded(43)
        self.look_at((3, 1), some_samples(source, 40), source)

    def test_ends_of_room_go_through_and_what_lies_beyond_does_not(self):
        source = seeded(44)
        seen = []
        for _ in range(200):
            bound = pair(source.choice(SOME_BOUNDS))
            samples = some_samples(source, source.randint(2, 8), 6, 3)
            moment = samples[-1][0] + source.randint(1, 4)
            room = walked(bound, samples).room(moment)
            seen.append((room[0] is None, room[1] is None))
            far = 10 ** 9
            low, high = [None if end is None else number(end) for end in room]
            inside = [-far if low is None else low, far if high is None else high]
            outside = [] if low is None else [(low - HAIR, "cap"), (low - far, "cap")]
            outside += [] if high is None else [(high + HAIR, "cup"), (high + far, "cup")]
            for value in inside + [sum(inside) / 2]:
                self.assertIsNone(walked(bound, samples).take(sample(moment, value)))
            for value, end in outside:
                told = walked(bound, samples).take(sample(moment, value))
                by_moment = dict(samples + [sample(moment, value)])
                self.assertEqual(kind(*[(when, by_moment[when]) for when in told[1]]), end)
        for ends_open in [(False, False), (True, False), (False, True)]:
            self.assertIn(ends_open, seen)

    def test_large_numbers(self):
        source = seeded(45)
        for figures in (30, 150):
            samples = some_samples(source, 9, 10 ** figures, 10 ** (figures // 2), 10 ** figures)
            self.look_at((10 ** figures, 3), samples, source)
            self.look_at((1, 10 ** figures), samples, source)
        huge = 10 ** 1999
        samples = [sample(-huge, huge), sample(0, Fraction(1, huge)), sample(huge, huge), sample(huge + 1, 0)]
        bend = Bend((1, huge))
        self.assertEqual([bend.take(given) is None for given in samples], [True, True, False, False])
        for parts in (bend.line_now(), bend.room(3 * huge)):
            self.assertTrue(all(part is None or is_lowest(part) for part in parts))

    def test_questions_change_nothing(self):
        source = seeded(46)
        for _ in range(30):
            samples = some_samples(source, 8, 6, 3)
            quiet = Bend((1, 1))
            asked = Bend((1, 1))
            for given in samples:
                self.assertEqual(asked.take(given), quiet.take(given))
                for _ in range(2):
                    asked.line_now()
                    asked.room(given[0] + 2)
            self.assertEqual(asked.line_now(), quiet.line_now())
            self.assertEqual(asked.room(999), quiet.room(999))

    def test_two_by_turns(self):
        source = seeded(47)
        for _ in range(30):
            one = some_samples(source, 8, 6, 3)
            other = some_samples(source, 8, 6, 3)
            first = Bend((1, 1))
            second = Bend((1, 3))
            told = [(first.take(left), second.take(right)) for left, right in zip(one, other)]
            self.assertEqual([left for left, right in told], ends((1, 1), one))
            self.assertEqual([right for left, right in told], ends((1, 3), other))
            self.assertEqual(first.line_now(), walked((1, 1), one).line_now())
            self.assertEqual(second.room(99), walked((1, 3), other).room(99))


if __name__ == "__main__":
    unittest.main()
