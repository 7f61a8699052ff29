import unittest
from fractions import Fraction
from itertools import combinations, product

from helper import (
    FEWEST, is_lowest, number, pair, sample, samples_of, seeded, some_fraction, some_row, some_samples, stand_of,
)
from lath.errors import LathError, NotARow, NoWay, TooFew
from lath.judge import miss
from lath.least import least
from lath.papers import shows
from lath.rows import runs, tilted, turned
from lath.tell import WAYS, fewest, many

HAIR = Fraction(1, 10 ** 200)
TIED = ("spans", "chain")

WRONG_ROWS = [
    (0, [(0, (2, 2))]),
    (0, [(0, (1, -1)), (0, None)]),
    (1, [(3, None), (3, None), (2, (2, 2))]),
    (2, [(0, (0, 1)), (1, None), (2, (0, 2)), (2, (3, 1))]),
    (40, samples_of([1] * 41)),
    (7, samples_of([1] * 7) + [(7, (4, 2))] + samples_of([1] * 60, 8)),
]


def awaited_worst(row, way, most):
    """The least of nought and all worths of threes for which a second reckoning needs no more pieces."""
    worths = {Fraction(0)}
    for run in runs(row):
        for three in combinations(run, 3):
            worths.add(abs(stand_of(*three)) / (1 if way in TIED else 2))
    for worth in sorted(worths):
        if sum(FEWEST[way](run, pair(worth)) for run in runs(row)) <= most:
            return pair(worth)
    raise AssertionError("the greatest worth needs one piece a run")


class LeastCase(unittest.TestCase):
    def look_at(self, row, way, most):
        told = least(row, way, most)
        self.assertIsInstance(told, tuple)
        worst, telling, paper = told
        self.assertTrue(is_lowest(worst))
        self.assertEqual(telling, fewest(row, way, worst)[0])
        self.assertLessEqual(len(telling), most)
        self.assertEqual(miss(row, way, telling), worst)
        if worst == (0, 1):
            self.assertEqual(paper, [])
            return worst
        self.assertIs(shows(row, way, worst, most + 1, paper, True), True)
        self.assertIs(shows(row, way, worst, most + 1, paper), False)
        self.assertGreater(many(row, way, pair(number(worst) - HAIR)), most)
        if way not in TIED:
            self.assertEqual(len(paper), most + 1 - len(runs(row)))
        return worst


class TestLeast(LeastCase):
    def test_by_hand(self):
        row = samples_of([0, 4, 0])
        self.assertEqual(least(row, "apart", 1), ((2, 1), [((0, 1), (2, 1), (2, 1), (2, 1))], [(0, 1, 2)]))
        self.assertEqual(least(row, "joined", 1), ((2, 1), [((0, 1), (2, 1), (2, 1), (2, 1))], [(0, 1, 2)]))
        level = [((0, 1), (0, 1), (2, 1), (0, 1))]
        self.assertEqual(least(row, "spans", 1)[:2], ((4, 1), level))
        self.assertEqual(least(row, "chain", 1), ((4, 1), level, [([0, 1, 2], [(0, 1, 2)])]))
        for way in WAYS:
            self.assertEqual(least(row, way, 2), ((0, 1), fewest(row, way, (0, 1))[0], []))

    def test_the_four_ways_are_unlike(self):
        row = samples_of([0, 1, 0, 1, 0, 2])
        self.assertEqual([least(row, way, 2)[0] for way in WAYS], [(1, 2), (1, 2), (2, 3), (1, 1)])

    def test_against_a_second_reckoning(self):
        source = seeded(111)
        seen = []
        for _ in range(14):
            row = some_samples(source, source.randint(3, 5), 5, source.choice([1, 3]), 3)
            if source.random() < 0.5:
                behind = row[-1][0] + 2
                row = row + [(behind - 1, None)] + samples_of([source.randint(-5, 5) for _ in range(3)], behind)
            for way in WAYS:
                for most in range(len(runs(row)), len(runs(row)) + 3):
                    worst = self.look_at(row, way, most)
                    self.assertEqual(worst, awaited_worst(row, way, most), (row, way, most))
                    seen.append((way, worst == (0, 1)))
        for way in WAYS:
            self.assertTrue({(way, True), (way, False)} <= set(seen))

    def test_rows_with_gap_marks_against_a_second_reckoning(self):
        source = seeded(112)
        for _ in range(25):
            row = some_row(source, source.randint(5, 9), 5, 1, 3)
            if max([len(run) for run in runs(row)] + [0]) > 5:
                continue
            for way in WAYS:
                for most in range(len(runs(row)), len(runs(row)) + 2):
                    self.assertEqual(self.look_at(row, way, most), awaited_worst(row, way, most), (row, way, most))

    def test_all_rows_of_small_numbers(self):
        for values in product(range(3), repeat=5):
            for way in WAYS:
                for most in (1, 2, 3):
                    self.look_at(samples_of(values), way, most)

    def test_longer_rows(self):
        source = seeded(113)
        for _ in range(25):
            row = some_row(source, source.randint(0, 25), 9, source.choice([1, 5]))
            for way in WAYS:
                most = len(runs(row)) + source.randint(0, 6)
                self.assertGreaterEqual(number(self.look_at(row, way, most)), number(least(row, way, most + 1)[0]))

    def test_forty_entries(self):
        source = seeded(114)
        rows = [some_samples(source, 40), some_row(source, 40), samples_of([0, 1] * 20)]
        rows.append([sample(place, Fraction(place * place, 7)) for place in range(40)])
        for row in rows:
            for way in WAYS:
                for more in (0, 1, 7, 30):
                    self.look_at(row, way, len(runs(row)) + more)

    def test_as_many_as_samples_and_far_more(self):
        source = seeded(115)
        for _ in range(20):
            row = some_row(source, source.randint(1, 12))
            samples = sum(len(run) for run in runs(row))
            for way in WAYS:
                for most in (samples, samples + 1, 10 ** 6, 10 ** 1999):
                    self.assertEqual(least(row, way, most), ((0, 1), fewest(row, way, (0, 1))[0], []))

    def test_rows_without_samples(self):
        for way in WAYS:
            for row in ([], [(3, None)], [(3, None), (4, None)]):
                for most in (0, 1, 12, 10 ** 30):
                    self.assertEqual(least(row, way, most), ((0, 1), [], []))
                for most in (-1, -10 ** 30):
                    with self.assertRaises(TooFew):
                        least(row, way, most)

    def test_large_numbers(self):
        source = seeded(116)
        huge = 10 ** 1999
        rows = [
            some_samples(source, 10, 10 ** 60, 10 ** 30, 10 ** 40),
            [sample(-huge, huge), sample(0, Fraction(1, huge)), sample(huge, huge), sample(huge + 1, 0)],
        ]
        for row in rows:
            for way in WAYS:
                for most in (1, 2, 3):
                    told = least(row, way, most)
                    self.assertEqual(miss(row, way, told[1]), told[0])
                    if told[0][0] > 0:
                        self.assertIs(shows(row, way, told[0], most + 1, told[2], True), True)


class TestRefusals(unittest.TestCase):
    def refused(self, error, row, way, most):
        with self.assertRaises(LathError) as caught:
            least(row, way, most)
        self.assertIs(caught.exception.__class__, error)
        return caught.exception

    def test_no_way(self):
        for way in ("", "Apart", "apart ", "least", "joined\n"):
            self.refused(NoWay, samples_of([1, 2]), way, 3)
            self.refused(NoWay, samples_of([1, 2]), way, -3)
            for at, row in WRONG_ROWS:
                self.refused(NoWay, row, way, 3)
                self.refused(NoWay, row, way, 0)

    def test_no_row(self):
        for way in WAYS:
            for at, row in WRONG_ROWS:
                ahead = list(row)
                for most in (-1, 0, 1, 50):
                    self.assertEqual(self.refused(NotARow, row, way, most).at, at)
                self.assertEqual(row, ahead)

    def test_too_few(self):
        row = [sample(0, 1), (1, None), sample(2, 5), sample(3, 1), (4, None), (5, None), sample(6, 1), (7, None)]
        for way in WAYS:
            for most in (2, 1, 0, -1, -10 ** 40):
                self.refused(TooFew, row, way, most)
                self.refused(TooFew, row[:-1], way, most)
            self.assertEqual(least(row, way, 3)[0], (0, 1))
            self.refused(TooFew, row[:1], way, 0)
            self.assertEqual(least(row[:1], way, 1)[0], (0, 1))


class TestOtherViews(LeastCase):
    def test_tilted_and_turned(self):
        source = seeded(117)
        for _ in range(40):
            row = some_row(source, source.randint(1, 11), 6, source.choice([1, 3]))
            steep = pair(some_fraction(source))
            base = pair(some_fraction(source))
            for way in WAYS:
                most = len(runs(row)) + source.randint(0, 3)
                worst = self.look_at(row, way, most)
                self.assertEqual(self.look_at(tilted(row, steep, base), way, most), worst)
                self.assertEqual(self.look_at(turned(row), way, most), worst)

    def test_gap_marks_more_or_fewer_side_by_side(self):
        source = seeded(118)
        for _ in range(40):
            row = [(3 * moment, value) for moment, value in some_row(source, source.randint(1, 11), 6)]
            more = []
            for moment, value in row:
                more.append((moment, value))
                if value is None:
                    more += [(moment + 1, None), (moment + 2, None)]
            more = [(-1000, None)] + more + [(1000, None)]
            fewer = [entry for entry in more[1:-1] if entry[1] is not None or entry[0] % 3 == 1]
            for way in WAYS:
                most = len(runs(row)) + source.randint(0, 3)
                self.assertEqual(least(more, way, most), least(row, way, most))
                self.assertEqual(least(fewer, way, most), least(row, way, most))

    def test_whose_lists(self):
        row = samples_of([0, 1, 0, 1, 5, 2, 9]) + [(7, None)] + samples_of([1, 2, 9], 8)
        ahead = list(row)
        for way in WAYS:
            for most in (2, 3, 9):
                awaited = least(row, way, most)
                told = least(row, way, most)
                if way in TIED and told[2]:
                    told[2][0][0].append(99)
                    told[2][0][1].clear()
                told[1].clear()
                told[2].append("more")
                self.assertEqual(row, ahead)
                self.assertEqual(least(row, way, most), awaited)
                own = list(row)
                kept = least(own, way, most)
                own.clear()
                self.assertEqual(kept, awaited)


if __name__ == "__main__":
    unittest.main()
