import math
import unittest

from helper import is_lowest, number, pair, seeded, some_fraction, some_row
from lath.errors import LathError, NotARow
from lath.rows import MOST, all_samples, checked, runs, tilted, turned

HUGE = 10 ** 500 + 1


def gaps(many):
    return [(moment, None) for moment in range(many)]


def plain(many):
    return [(moment, (moment, 1)) for moment in range(many)]


class TestChecked(unittest.TestCase):
    def refused_at(self, row, place):
        ahead = list(row)
        with self.assertRaises(NotARow) as caught:
            checked(row)
        self.assertEqual(caught.exception.at, place)
        self.assertIsInstance(caught.exception, LathError)
        self.assertEqual(row, ahead)

    def test_most(self):
        self.assertEqual(MOST, 40)

    def test_rows(self):
        rows = [
            [],
            gaps(1),
            gaps(40),
            plain(1),
            plain(39),
            plain(40),
            [(-HUGE, (0, 1)), (0, None), (HUGE, (-HUGE, 2)), (HUGE + 1, (1, HUGE))],
            [(-3, (0, 1)), (5, (-7, 3)), (6, None), (7, None), (8, (7, 3))],
        ]
        for row in rows:
            ahead = list(row)
            told = checked(row)
            self.assertEqual(told, ahead)
            self.assertEqual(row, ahead)
            self.assertIsNot(told, row)

    def test_told_list_is_a_new_one(self):
        row = plain(3)
        told = checked(row)
        told.append("more")
        self.assertEqual(row, plain(3))
        row.clear()
        self.assertEqual(told, plain(3) + ["more"])

    def test_more_than_forty(self):
        self.refused_at(plain(41), 40)
        self.refused_at(gaps(41), 40)
        self.refused_at(plain(5000), 40)
        self.refused_at(plain(40) + [(0, (0, 0))] * 3, 40)

    def test_moment_not_above_the_one_ahead(self):
        self.refused_at([(0, (1, 1)), (0, (1, 1))], 1)
        self.refused_at([(0, None), (0, None)], 1)
        self.refused_at([(0, None), (0, (1, 1))], 1)
        self.refused_at([(5, (1, 1)), (6, (1, 1)), (4, None)], 2)
        self.refused_at([(HUGE, None), (HUGE - 1, None)], 1)

    def test_moments_are_told_from_the_entry_just_ahead(self):
        self.refused_at([(5, None), (3, None), (4, None)], 1)

    def test_no_fraction(self):
        wrong = [
            (1, 0), (0, 0), (1, -1), (0, -1), (-3, -2), (3, -HUGE),
            (2, 4), (-2, 4), (4, 2), (3, 3), (0, 2), (0, HUGE), (HUGE * 3, 6),
        ]
        for value in wrong:
            self.refused_at([(0, value)], 0)
            self.refused_at([(0, (1, 1)), (1, None), (2, value), (3, (1, 1))], 2)
            self.refused_at(plain(39) + [(39, value)], 39)

    def test_the_first_of_several_faults_of_unlike_kinds(self):
        self.refused_at([(0, (2, 4)), (0, (1, 1))], 0)
        self.refused_at([(0, (1, 1)), (0, (1, 1)), (1, (1, 0))], 1)
        self.refused_at([(0, (1, 1)), (1, (1, 0)), (1, (0, 3))], 1)
        self.refused_at([(0, (1, 1)), (0, (2, 2))], 1)
        self.refused_at(plain(39) + [(38, None)] + plain(3), 39)
        self.refused_at(plain(7) + [(7, (0, 9))] + plain(90), 7)

    def test_good_behind_a_refusal(self):
        row = [(0, (2, 4))]
        self.refused_at(row, 0)
        row[0] = (0, (1, 2))
        self.assertEqual(checked(row), [(0, (1, 2))])

    def test_against_a_second_reckoning(self):
        source = seeded(8)
        for _ in range(400):
            many = source.choice([0, 1, 3, 6, 39, 40, 41, 44])
            row = []
            moment = 0
            for _ in range(many):
                moment += 1 if source.random() < 0.96 else 0
                value = pair(some_fraction(source))
                if source.random() < 0.04:
                    value = (source.randint(-2, 2), source.randint(-1, 2))
                row.append((moment, value if source.random() < 0.8 else None))
            place = self.first_wrong(row)
            if place is None:
                self.assertEqual(checked(row), row)
            else:
                self.refused_at(row, place)

    def first_wrong(self, row):
        for place, (moment, value) in enumerate(row):
            rises = place == 0 or moment > row[place - 1][0]
            good = value is None or (value[1] > 0 and math.gcd(value[0], value[1]) == 1)
            if place > 39 or not rises or not good:
                return place
        return None


class TestRuns(unittest.TestCase):
    def test_none_and_gap_marks_alone(self):
        for row in ([], gaps(1), gaps(5)):
            self.assertEqual(runs(row), [])
            self.assertEqual(all_samples(row), [])

    def test_no_gap_marks(self):
        self.assertEqual(runs(plain(4)), [plain(4)])
        self.assertEqual(all_samples(plain(4)), plain(4))

    def test_gap_marks_at_the_ends_and_side_by_side(self):
        a, b, c, d = (1, (1, 2)), (2, (0, 1)), (5, (-1, 2)), (9, (3, 1))
        row = [(-1, None), (0, None), a, b, (3, None), (4, None), c, (6, None), d, (10, None)]
        self.assertEqual(runs(row), [[a, b], [c], [d]])
        self.assertEqual(all_samples(row), [a, b, c, d])
        self.assertEqual(runs(row[2:-1]), [[a, b], [c], [d]])
        self.assertEqual(runs(row[1:]), [[a, b], [c], [d]])

    def test_every_way_of_laying_gap_marks(self):
        for bits in range(2 ** 7):
            row = [(k, (k, 1) if bits >> k & 1 else None) for k in range(7)]
            word = "".join("s" if entry[1] else " " for entry in row)
            told = runs(row)
            self.assertEqual([len(run) for run in told], [len(part) for part in word.split()])
            self.assertEqual([entry for run in told for entry in run], all_samples(row))
            self.assertEqual(all_samples(row), [entry for entry in row if entry[1] is not None])

    def test_whose_lists(self):
        row = plain(3) + [(3, None)] + [(4, (0, 1))]
        ahead = list(row)
        told = runs(row)
        told[0].append("more")
        told[1].clear()
        told.append([])
        samples = all_samples(row)
        samples.clear()
        self.assertEqual(row, ahead)
        self.assertEqual(runs(row), [plain(3), [(4, (0, 1))]])
        self.assertEqual(len(all_samples(row)), 4)
        alone = plain(2)
        kept = runs(alone)
        every = all_samples(alone)
        alone.append((2, (0, 1)))
        self.assertEqual(kept, [plain(2)])
        self.assertEqual(every, plain(2))


class TestTiltedAndTurned(unittest.TestCase):
    def test_tilted_by_hand(self):
        row = [(-2, (1, 2)), (0, (1, 3)), (1, None), (3, (-1, 2))]
        told = tilted(row, (3, 4), (1, 6))
        self.assertEqual(told, [(-2, (-5, 6)), (0, (1, 2)), (1, None), (3, (23, 12))])

    def test_turned_by_hand(self):
        row = [(-2, (1, 2)), (0, None), (3, (-1, 2))]
        self.assertEqual(turned(row), [(-3, (-1, 2)), (0, None), (2, (1, 2))])

    def test_empty_and_gap_marks_alone(self):
        self.assertEqual(tilted([], (1, 2), (1, 3)), [])
        self.assertEqual(turned([]), [])
        self.assertEqual(tilted(gaps(3), (1, 2), (1, 3)), gaps(3))
        self.assertEqual(turned(gaps(3)), [(-2, None), (-1, None), (0, None)])

    def test_back_again(self):
        source = seeded(10)
        for _ in range(200):
            row = some_row(source, source.randint(0, 12))
            ahead = list(row)
            slope = pair(some_fraction(source))
            height = pair(some_fraction(source))
            told = tilted(row, slope, height)
            for entry, new in zip(row, told, strict=True):
                self.assertEqual(entry[0], new[0])
                if entry[1] is None:
                    self.assertIsNone(new[1])
                else:
                    self.assertTrue(is_lowest(new[1]))
                    self.assertEqual(
                        number(new[1]), number(entry[1]) + number(slope) * entry[0] + number(height)
                    )
            back = tilted(told, (-slope[0], slope[1]), (-height[0], height[1]))
            self.assertEqual(back, ahead)
            self.assertEqual(checked(turned(row)), turned(row))
            self.assertEqual(turned(turned(row)), ahead)
            self.assertEqual(row, ahead)

    def test_far_beyond_64_bits(self):
        row = [(HUGE, (1, HUGE))]
        told = tilted(row, (1, HUGE), (-1, 1))
        self.assertEqual(told, [(HUGE, (1, HUGE))])
        self.assertEqual(turned(row), [(-HUGE, (1, HUGE))])

    def test_whose_lists(self):
        row = plain(3)
        for tell in (turned, lambda given: tilted(given, (0, 1), (0, 1))):
            first = tell(row)
            again = tell(row)
            first.clear()
            self.assertEqual(tell(row), again)
            self.assertEqual(row, plain(3))
            row.append((9, None))
            self.assertEqual(len(again), 3)
            row.pop()


if __name__ == "__main__":
    unittest.main()
