import unittest
from fractions import Fraction

from helper import (
    fewest_parts, is_borne, is_piece, number, pair, piece_height, sample, samples_of, seeded, some_fraction, some_row,
    some_samples, stand_of,
)
from lath.apart import apart
from lath.best import best
from lath.lines import height
from lath.rows import runs
from lath.stretches import stretches
from lath.threes import pinched

SOME_BOUNDS = [Fraction(0), Fraction(1, 3), Fraction(1), Fraction(5, 2), Fraction(4)]


def awaited_pieces(row, bound):
    told = []
    for run in runs(row):
        for stretch in stretches(run, bound):
            line = best(stretch)[0]
            ends = [(stretch[0][0], 1), (stretch[-1][0], 1)]
            told.append((ends[0], height(line, ends[0]), ends[1], height(line, ends[1])))
    return told


class TestApart(unittest.TestCase):
    def test_rows_without_samples(self):
        for bound in ((0, 1), (7, 2)):
            self.assertEqual(apart([], bound), ([], []))
            self.assertEqual(apart([(3, None)], bound), ([], []))
            self.assertEqual(apart([(-1, None), (0, None), (5, None)], bound), ([], []))

    def test_runs_of_one_sample(self):
        row = [(0, (1, 2)), (1, None), (2, None), (5, (-3, 1)), (6, None)]
        pieces = [((0, 1), (1, 2), (0, 1), (1, 2)), ((5, 1), (-3, 1), (5, 1), (-3, 1))]
        self.assertEqual(apart(row, (0, 1)), (pieces, []))
        self.assertEqual(apart(row, (9, 1)), (pieces, []))

    def test_by_hand(self):
        row = [(0, (0, 1)), (1, (2, 1)), (4, (4, 1)), (5, (0, 1))]
        pieces = [((0, 1), (1, 2), (4, 1), (9, 2)), ((5, 1), (0, 1), (5, 1), (0, 1))]
        telling, paper = apart(row, (1, 2))
        self.assertEqual(telling, pieces)
        self.assertEqual(len(paper), 1)
        self.assertEqual(paper[0][2], 5)
        self.assertIn(paper[0][:2], [(0, 1), (0, 4), (1, 4)])

    def test_stretches_begin_anew_with_each_run(self):
        row = [(0, (0, 1)), (1, (1, 1)), (2, None), (3, (3, 1)), (4, (4, 1)), (5, (9, 1))]
        telling, paper = apart(row, (0, 1))
        self.assertEqual(telling, [
            ((0, 1), (0, 1), (1, 1), (1, 1)), ((3, 1), (3, 1), (4, 1), (4, 1)), ((5, 1), (9, 1), (5, 1), (9, 1)),
        ])
        self.assertEqual(paper, [(3, 4, 5)])

    def test_just_at_the_bound(self):
        row = samples_of([0, 2, 0])
        self.assertEqual(apart(row, (1, 1)), ([((0, 1), (1, 1), (2, 1), (1, 1))], []))
        telling, paper = apart(row, pair(1 - Fraction(1, 10 ** 40)))
        self.assertEqual((len(telling), paper), (2, [(0, 1, 2)]))

    def look_at(self, row, bound):
        telling, paper = apart(row, bound)
        self.assertEqual(telling, awaited_pieces(row, bound))
        self.assertTrue(all(is_piece(piece) for piece in telling))
        ends = []
        for run in runs(row):
            parts = stretches(run, bound)
            ends += [(stretch, behind[0]) for stretch, behind in zip(parts, parts[1:])]
        self.assertEqual(len(paper), len(ends))
        for three, (stretch, behind) in zip(paper, ends):
            by_moment = dict(stretch + [behind])
            self.assertIsInstance(three, tuple)
            self.assertEqual(len(three), 3)
            self.assertTrue(three[0] < three[1] < three[2])
            self.assertEqual(three[2], behind[0])
            told = [(moment, by_moment[moment]) for moment in three]
            self.assertTrue(pinched(*told, bound))
            self.assertGreater(abs(stand_of(*told)), 2 * number(bound))
        return telling

    def test_against_a_second_reckoning(self):
        source = seeded(31)
        for _ in range(150):
            row = some_row(source, source.randint(0, 12), 5, source.choice([1, 4]))
            bound = pair(source.choice(SOME_BOUNDS + [abs(some_fraction(source))]))
            telling = self.look_at(row, bound)
            fewest = sum(fewest_parts(run, bound, is_borne) for run in runs(row))
            self.assertEqual(len(telling), fewest)
            for moment, value in [entry for entry in row if entry[1] is not None]:
                over = [piece for piece in telling if number(piece[0]) <= moment <= number(piece[2])]
                self.assertEqual(len(over), 1)
                self.assertLessEqual(abs(piece_height(over[0], moment) - number(value)), number(bound))

    def test_forty_entries(self):
        source = seeded(32)
        for bound in ((0, 1), (1, 2), (3, 1), (9, 1)):
            self.look_at(some_samples(source, 40), bound)
            self.look_at(some_row(source, 40), bound)

    def test_large_numbers(self):
        source = seeded(33)
        for figures in (30, 200):
            row = some_samples(source, 14, 10 ** figures, 10 ** (figures // 2), 10 ** figures)
            self.look_at(row, (10 ** figures, 7))
            self.look_at(row, (1, 10 ** figures))
        huge = 10 ** 1999
        self.look_at([sample(-huge, huge), sample(0, Fraction(1, huge)), sample(huge, -huge + 1)], (0, 1))

    def test_whose_lists(self):
        row = samples_of([0, 1, 0, 1, 5]) + [(7, None)] + samples_of([1, 2, 9], 8)
        ahead = list(row)
        awaited = apart(row, (0, 1))
        told = apart(row, (0, 1))
        self.assertEqual(row, ahead)
        told[0].clear()
        told[1].append("more")
        self.assertEqual(apart(row, (0, 1)), awaited)
        kept = apart(row, (0, 1))
        row.clear()
        self.assertEqual(kept, awaited)
        empty = apart([], (0, 1))
        empty[0].append("more")
        empty[1].append("more")
        self.assertEqual(apart([], (0, 1)), ([], []))


if __name__ == "__main__":
    unittest.main()
