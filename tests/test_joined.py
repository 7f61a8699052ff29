import unittest
from fractions import Fraction

from helper import (
    fewest_joints, is_piece, number, pair, piece_height, sample, samples_of, seeded, some_fraction, some_row,
    some_samples, stand_of,
)
from lath.bends import Bend
from lath.joined import joined
from lath.rows import all_samples, runs
from lath.threes import kind, pinched

SOME_BOUNDS = [Fraction(0), Fraction(1, 3), Fraction(1), Fraction(3, 2), Fraction(3)]


def steepness(piece):
    start, first, end, last = [number(part) for part in piece]
    return (last - first) / (end - start)


class TestJoined(unittest.TestCase):
    def test_rows_without_samples(self):
        for bound in ((0, 1), (7, 2)):
            self.assertEqual(joined([], bound), ([], []))
            self.assertEqual(joined([(3, None)], bound), ([], []))
            self.assertEqual(joined([(-1, None), (0, None), (5, None)], bound), ([], []))

    def test_runs_of_one_sample(self):
        row = [(0, (1, 2)), (1, None), (2, None), (5, (-3, 1)), (6, None)]
        pieces = [((0, 1), (1, 2), (0, 1), (1, 2)), ((5, 1), (-3, 1), (5, 1), (-3, 1))]
        self.assertEqual(joined(row, (0, 1)), (pieces, []))
        self.assertEqual(joined(row, (9, 1)), (pieces, []))

    def test_a_run_of_two_lies_along_the_least_slope(self):
        self.assertEqual(joined(samples_of([0, 4], 1), (1, 2)), ([((1, 1), (1, 2), (2, 1), (7, 2))], []))
        self.assertEqual(joined(samples_of([0, 4], 1), (0, 1)), ([((1, 1), (0, 1), (2, 1), (4, 1))], []))

    def test_by_hand(self):
        # The first link, of slope 1, ends in a cap at 2; the next one is level at 3/2 and goes on to the end.
        telling, paper = joined(samples_of([0, 2, 1, 2]), (1, 2))
        self.assertEqual(telling, [((0, 1), (1, 2), (1, 1), (3, 2)), ((1, 1), (3, 2), (3, 1), (3, 2))])
        self.assertEqual(paper, [(0, 1, 2)])

    def test_the_last_link_may_have_a_greatest_slope_alone(self):
        telling, paper = joined(samples_of([0, 2, 1]), (1, 2))
        self.assertEqual(telling, [((0, 1), (1, 2), (1, 1), (3, 2)), ((1, 1), (3, 2), (2, 1), (3, 2))])
        self.assertEqual(paper, [(0, 1, 2)])

    def test_a_joint_between_two_moments(self):
        # One line through the samples at 0 and 1, one through those at 2 and 3.
        telling, paper = joined(samples_of([0, 1, 1, 0]), (0, 1))
        self.assertEqual(telling, [((0, 1), (0, 1), (3, 2), (3, 2)), ((3, 2), (3, 2), (3, 1), (0, 1))])
        self.assertEqual(paper, [(0, 1, 2)])

    def test_each_run_by_itself(self):
        source = seeded(51)
        for _ in range(40):
            row = some_row(source, 12)
            alone = [joined(run, (1, 1)) for run in runs(row)]
            told = joined(row, (1, 1))
            self.assertEqual(told[0], [piece for telling, paper in alone for piece in telling])
            self.assertEqual(told[1], [three for telling, paper in alone for three in paper])

    def look_at_run(self, run, bound):
        telling, paper = joined(run, bound)
        self.assertTrue(all(is_piece(piece) for piece in telling))
        self.assertEqual(telling[0][0], (run[0][0], 1))
        self.assertEqual(telling[-1][2], (run[-1][0], 1))
        for piece, behind in zip(telling, telling[1:]):
            self.assertEqual(piece[2:], behind[:2])
            self.assertNotEqual(steepness(piece), steepness(behind))
            self.assertTrue(run[0][0] < number(piece[2]) < run[-1][0])
            self.assertLess(number(piece[0]), number(piece[2]))
        for moment, value in run:
            over = [piece for piece in telling if number(piece[0]) <= moment <= number(piece[2])]
            self.assertGreaterEqual(len(over), 1)
            for piece in over:
                self.assertLessEqual(abs(piece_height(piece, moment) - number(value)), number(bound))
        self.assertEqual(len(paper), len(telling) - 1)
        self.look_at_paper(run, bound, paper)
        self.look_at_links(run, bound, telling, paper)

    def look_at_paper(self, run, bound, paper):
        by_moment = dict(run)
        ended = {"cap": run[0][0], "cup": run[0][0]}
        for three in paper:
            self.assertIsInstance(three, tuple)
            self.assertTrue(three[0] < three[1] < three[2])
            told = [(moment, by_moment[moment]) for moment in three]
            self.assertTrue(pinched(*told, bound))
            self.assertGreater(abs(stand_of(*told)), 2 * number(bound))
            self.assertGreaterEqual(three[0], ended[kind(*told)])
            ended[kind(*told)] = three[2]

    def look_at_links(self, run, bound, telling, paper):
        bend = Bend(bound)
        ended = [told for told in [bend.take(given) for given in run] if told is not None]
        self.assertEqual([three[2] for line, three in ended], [three[2] for three in paper])
        lines = [line for line, three in ended] + [bend.line_now()]
        self.assertEqual(len(lines), len(telling))
        for (steep, base), piece in zip(lines, telling):
            for when, high in (piece[:2], piece[2:]):
                self.assertEqual(number(steep) * number(when) + number(base), number(high))

    def look_at(self, row, bound):
        for run in runs(row):
            self.look_at_run(run, bound)
        telling, paper = joined(row, bound)
        self.assertEqual(len(paper), len(telling) - len(runs(row)))

    def test_against_what_the_points_tell(self):
        source = seeded(52)
        for _ in range(200):
            row = some_row(source, source.randint(0, 14), 6, source.choice([1, 4]))
            self.look_at(row, pair(source.choice(SOME_BOUNDS + [abs(some_fraction(source))])))

    def test_no_fewer_pieces_by_a_second_reckoning(self):
        source = seeded(53)
        seen = []
        for _ in range(60):
            run = some_samples(source, source.randint(1, 6), 6, 3, 3)
            bound = pair(source.choice(SOME_BOUNDS))
            many = len(joined(run, bound)[0])
            seen.append(many)
            self.assertEqual(many, fewest_joints(run, bound), (run, bound))
        self.assertGreaterEqual(max(seen), 4)

    def test_forty_entries(self):
        source = seeded(54)
        for bound in ((0, 1), (1, 2), (3, 1), (9, 1)):
            self.look_at(some_samples(source, 40), bound)
            self.look_at(some_row(source, 40), bound)
        for sign in (1, -1):
            self.look_at([sample(place, Fraction(sign * place * place, 7)) for place in range(40)], (1, 2))

    def test_large_numbers(self):
        source = seeded(55)
        for figures in (30, 200):
            row = some_samples(source, 12, 10 ** figures, 10 ** (figures // 2), 10 ** figures)
            self.look_at(row, (10 ** figures, 7))
            self.look_at(row, (1, 10 ** figures))
        huge = 10 ** 1999
        row = [sample(-huge, huge), sample(0, Fraction(1, huge)), sample(huge, huge), sample(huge + 1, 0)]
        self.look_at(row, (1, huge))

    def test_whose_lists(self):
        row = samples_of([0, 1, 0, 1, 5]) + [(7, None)] + samples_of([1, 2, 9], 8)
        ahead = list(row)
        awaited = joined(row, (0, 1))
        told = joined(row, (0, 1))
        self.assertEqual(row, ahead)
        told[0].clear()
        told[1].append("more")
        self.assertEqual(joined(row, (0, 1)), awaited)
        kept = joined(row, (0, 1))
        row.clear()
        self.assertEqual(kept, awaited)
        self.assertEqual(len(all_samples(ahead)), 8)
        empty = joined([], (0, 1))
        empty[0].append("more")
        empty[1].append("more")
        self.assertEqual(joined([], (0, 1)), ([], []))


if __name__ == "__main__":
    unittest.main()
