import unittest
from fractions import Fraction

from helper import is_lowest, number, pair, sample, seeded, some_samples
from lath.threes import kind, pinched, stand

HUGE = 10 ** 700 + 9
HAIR = Fraction(1, 10 ** 300)

CAP = ((0, (0, 1)), (1, (2, 1)), (4, (4, 1)))
CUP = ((0, (0, 1)), (1, (0, 1)), (4, (4, 1)))
FLAT = ((-2, (1, 2)), (0, (3, 2)), (5, (4, 1)))


class TestThrees(unittest.TestCase):
    def test_stand(self):
        self.assertEqual(stand(*CAP), (1, 1))
        self.assertEqual(stand(*CUP), (-1, 1))
        self.assertEqual(stand(*FLAT), (0, 1))
        self.assertEqual(stand((0, (0, 1)), (1, (0, 1)), (3, (1, 2))), (-1, 6))

    def test_kind(self):
        self.assertEqual(kind(*CAP), "cap")
        self.assertEqual(kind(*CUP), "cup")
        self.assertEqual(kind(*FLAT), "flat")

    def test_kind_a_hair_off_flat(self):
        one, mid, last = FLAT
        self.assertEqual(kind(one, sample(0, number(mid[1]) + HAIR), last), "cap")
        self.assertEqual(kind(one, sample(0, number(mid[1]) - HAIR), last), "cup")

    def test_pinched_at_twice_the_bound(self):
        half = Fraction(1, 2)
        for three in (CAP, CUP):
            self.assertIs(pinched(*three, pair(half)), False)
            self.assertIs(pinched(*three, pair(half - HAIR)), True)
            self.assertIs(pinched(*three, pair(half + HAIR)), False)
            self.assertIs(pinched(*three, (0, 1)), True)
            self.assertIs(pinched(*three, (1, 1)), False)
            self.assertIs(pinched(*three, (1, 4)), True)

    def test_pinched_of_a_flat_three(self):
        for bound in ((0, 1), (1, 2), pair(HAIR)):
            self.assertIs(pinched(*FLAT, bound), False)

    def test_bound_nought(self):
        one, mid, last = FLAT
        for shift in (HAIR, -HAIR):
            three = (one, sample(0, number(mid[1]) + shift), last)
            self.assertIs(pinched(*three, (0, 1)), True)
            self.assertIs(pinched(*three, pair(HAIR / 2)), False)

    def test_against_a_second_reckoning(self):
        source = seeded(13)
        for _ in range(500):
            one, mid, last = some_samples(source, 3, 4, 3)
            part = Fraction(mid[0] - one[0], last[0] - one[0])
            awaited = number(mid[1]) - number(one[1]) * (1 - part) - number(last[1]) * part
            told = stand(one, mid, last)
            self.assertTrue(is_lowest(told))
            self.assertEqual(number(told), awaited)
            self.assertEqual(kind(one, mid, last), "cap" if awaited > 0 else "cup" if awaited < 0 else "flat")
            for bound in (Fraction(0), abs(awaited) / 2, abs(awaited) / 3, abs(awaited), Fraction(1, 2)):
                self.assertIs(pinched(one, mid, last, pair(bound)), abs(awaited) > 2 * bound)

    def test_far_beyond_64_bits(self):
        three = (sample(-HUGE, 0), sample(0, Fraction(HUGE, 3)), sample(HUGE, Fraction(2, HUGE)))
        awaited = Fraction(HUGE, 3) - Fraction(1, HUGE)
        self.assertEqual(stand(*three), pair(awaited))
        self.assertEqual(kind(*three), "cap")
        self.assertIs(pinched(*three, pair(awaited / 2)), False)
        self.assertIs(pinched(*three, pair(awaited / 2 - Fraction(1, HUGE ** 2))), True)


if __name__ == "__main__":
    unittest.main()
