import unittest
from fractions import Fraction
from itertools import combinations

from helper import (
    FEWEST, is_good, is_piece, number, pair, piece_height, sample, samples_of, seeded, some_fraction, some_row,
    some_samples,
)
from lath.chords import bars, labels
from lath.rows import runs
from lath.tied import chain, spans

SOME_BOUNDS = [Fraction(0), Fraction(1, 3), Fraction(1), Fraction(5, 2), Fraction(4)]


def all_parts(run, tied):
    """All lists of places (first, last) of pieces, of one way, through a run."""
    if tied and len(run) == 1:
        return [[(0, 0)]]
    inner = range(1, len(run) - 1) if tied else range(1, len(run))
    told = []
    for many in range(len(run)):
        for cuts in combinations(inner, many):
            ends = (0,) + cuts + (len(run) - 1 if tied else len(run),)
            told.append([(one, other if tied else other - 1) for one, other in zip(ends, ends[1:])])
    return told


def awaited_run(run, bound, tied):
    """Of all lists of pieces within the bound those of the fewest; of these the one by the starts from behind."""
    good = []
    for places in all_parts(run, tied):
        if all(first == last or is_good(run[first:last + 1], bound) for first, last in places):
            good.append(places)
    fewest = min(len(places) for places in good)
    chosen = min([places for places in good if len(places) == fewest], key=lambda places: places[::-1])
    return [((run[one][0], 1), run[one][1], (run[other][0], 1), run[other][1]) for one, other in chosen]


class TestTied(unittest.TestCase):
    def test_rows_without_samples(self):
        for way in (spans, chain):
            self.assertEqual(way([], (0, 1)), ([], []))
            self.assertEqual(way([(3, None)], (0, 1)), ([], []))
            self.assertEqual(way([(-1, None), (0, None), (5, None)], (7, 2)), ([], []))

    def test_runs_of_one_sample(self):
        row = [(0, (1, 2)), (1, None), (2, None), (5, (-3, 1)), (6, None)]
        pieces = [((0, 1), (1, 2), (0, 1), (1, 2)), ((5, 1), (-3, 1), (5, 1), (-3, 1))]
        self.assertEqual(spans(row, (0, 1)), (pieces, [([0, 1], []), ([0, 1], [])]))
        self.assertEqual(chain(row, (0, 1)), (pieces, [([0], []), ([0], [])]))

    def test_by_hand(self):
        row = [sample(1, 0), sample(2, 5), sample(4, 0), sample(7, 9), (8, None), sample(9, 1), sample(11, 2)]
        telling, paper = spans(row, (0, 1))
        self.assertEqual(telling, [
            ((1, 1), (0, 1), (2, 1), (5, 1)), ((4, 1), (0, 1), (7, 1), (9, 1)), ((9, 1), (1, 1), (11, 1), (2, 1)),
        ])
        self.assertEqual(paper, [([0, 1, 1, 2, 2], [(1, 2, 4), (1, 4, 7)]), ([0, 1, 1], [])])
        telling, paper = chain(row, (0, 1))
        self.assertEqual(telling, [
            ((1, 1), (0, 1), (2, 1), (5, 1)), ((2, 1), (5, 1), (4, 1), (0, 1)), ((4, 1), (0, 1), (7, 1), (9, 1)),
            ((9, 1), (1, 1), (11, 1), (2, 1)),
        ])
        self.assertEqual(paper, [([0, 1, 2, 3], [(1, 2, 4), (1, 4, 7), (2, 4, 7)]), ([0, 1], [])])

    def test_the_last_piece_begins_earliest(self):
        # Two pieces each: three and one, two and two, or one and three samples.
        row = samples_of([0, 0, 0, 5])
        self.assertEqual(spans(row, (0, 1))[0], [
            ((0, 1), (0, 1), (1, 1), (0, 1)), ((2, 1), (0, 1), (3, 1), (5, 1)),
        ])
        self.assertEqual(spans(row, (3, 1))[0], [
            ((0, 1), (0, 1), (0, 1), (0, 1)), ((1, 1), (0, 1), (3, 1), (5, 1)),
        ])
        self.assertEqual(chain(samples_of([0, 3, 0, 1, 4]), (1, 1))[0], [
            ((0, 1), (0, 1), (1, 1), (3, 1)), ((1, 1), (3, 1), (2, 1), (0, 1)), ((2, 1), (0, 1), (4, 1), (4, 1)),
        ])

    def look_at(self, row, bound, tied):
        way = chain if tied else spans
        telling, paper = way(row, bound)
        self.assertEqual(telling, [piece for run in runs(row) for piece in awaited_run(run, bound, tied)])
        self.look_at_paper(row, bound, tied, telling, paper)

    def look_at_paper(self, row, bound, tied, telling, paper):
        self.assertTrue(all(is_piece(piece) for piece in telling))
        self.assertEqual(paper, [(labels(run, bound, tied), bars(run, bound, tied)) for run in runs(row)])
        self.assertTrue(all(isinstance(told, tuple) for told in paper))
        self.assertEqual(len(telling), sum(max(1, told[0][-1]) for told in paper))

    def test_against_a_search_over_all_ways(self):
        source = seeded(71)
        for _ in range(120):
            row = some_row(source, source.randint(0, 9), 4, source.choice([1, 3]))
            bound = pair(source.choice(SOME_BOUNDS + [abs(some_fraction(source))]))
            for tied in (True, False):
                self.look_at(row, bound, tied)
                awaited = sum(FEWEST["chain" if tied else "spans"](run, bound) for run in runs(row))
                self.assertEqual(len((chain if tied else spans)(row, bound)[0]), awaited)

    def test_large_numbers(self):
        source = seeded(72)
        for figures in (30, 150):
            row = some_samples(source, 7, 10 ** figures, 10 ** (figures // 2), 10 ** figures)
            for tied in (True, False):
                self.look_at(row, (10 ** figures, 7), tied)
                self.look_at(row, (1, 10 ** figures), tied)

    def test_forty_entries(self):
        source = seeded(73)
        for bound in ((0, 1), (3, 1), (9, 1)):
            for row in (some_samples(source, 40), some_row(source, 40)):
                for tied in (True, False):
                    telling, paper = (chain if tied else spans)(row, bound)
                    self.look_at_paper(row, bound, tied, telling, paper)
                    for moment, value in [entry for entry in row if entry[1] is not None]:
                        over = [piece for piece in telling if number(piece[0]) <= moment <= number(piece[2])]
                        self.assertTrue(over)
                        for piece in over:
                            self.assertLessEqual(abs(piece_height(piece, moment) - number(value)), number(bound))

    def test_whose_lists(self):
        row = samples_of([0, 1, 0, 1, 5]) + [(7, None)] + samples_of([1, 2, 9], 8)
        ahead = list(row)
        for way in (spans, chain):
            awaited = way(row, (0, 1))
            told = way(row, (0, 1))
            told[0].clear()
            told[1][0][0].clear()
            told[1][0][1].append("more")
            told[1].pop()
            self.assertEqual(row, ahead)
            self.assertEqual(way(row, (0, 1)), awaited)
            own = list(row)
            kept = way(own, (0, 1))
            own.clear()
            self.assertEqual(kept, awaited)


if __name__ == "__main__":
    unittest.main()
