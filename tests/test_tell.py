import unittest
from fractions import Fraction

from helper import FEWEST, number, pair, sample, samples_of, seeded, some_row, some_samples
from lath.apart import apart
from lath.errors import LathError, NoBound, NotARow, NoWay
from lath.joined import joined
from lath.judge import fits, miss
from lath.rows import runs
from lath.tell import WAYS, fewest, many
from lath.tied import chain, spans

BY_NAME = {"apart": apart, "joined": joined, "spans": spans, "chain": chain}
SOME_BOUNDS = [Fraction(0), Fraction(1, 3), Fraction(1), Fraction(3, 2), Fraction(3)]

GOOD = samples_of([0, 3, 1]) + [(5, None), (6, (1, 2))]
WRONG_ROWS = [
    (0, [(0, (2, 2))]),
    (0, [(0, (1, 0))]),
    (0, [(0, (1, -1)), (0, None)]),
    (1, [(3, None), (3, None), (2, (2, 2))]),
    (1, [(3, (1, 1)), (1, (0, 1)), (0, (0, 2))]),
    (2, [(0, (0, 1)), (1, None), (2, (0, 2)), (2, (3, 1))]),
    (40, samples_of([1] * 41)),
    (40, samples_of([1] * 40) + [(40, (2, 2)), (39, None)]),
    (7, samples_of([1] * 7) + [(7, (4, 2))] + samples_of([1] * 60, 8)),
    (39, samples_of([1] * 39) + [(38, None)] + samples_of([1] * 20, 50)),
]


class TestFewest(unittest.TestCase):
    def test_ways(self):
        self.assertEqual(WAYS, ("apart", "joined", "spans", "chain"))
        self.assertIsInstance(WAYS, tuple)

    def test_each_way_tells_what_it_tells(self):
        source = seeded(81)
        for _ in range(60):
            row = some_row(source, source.randint(0, 14), 6, source.choice([1, 4]))
            bound = pair(source.choice(SOME_BOUNDS))
            for way in WAYS:
                told = fewest(row, way, bound)
                self.assertEqual(told, BY_NAME[way](row, bound))
                self.assertIsInstance(told, tuple)
                self.assertEqual(many(row, way, bound), len(told[0]))

    def test_the_ways_are_unlike(self):
        row = samples_of([0, 1, 1, 0])
        tellings = [fewest(row, way, (0, 1))[0] for way in WAYS]
        self.assertEqual([many(row, way, (0, 1)) for way in WAYS], [2, 2, 2, 3])
        self.assertNotEqual(tellings[0], tellings[1])
        self.assertEqual(fewest(samples_of([0, 2, 0]), "apart", (1, 1))[0], [((0, 1), (1, 1), (2, 1), (1, 1))])
        self.assertEqual(many(samples_of([0, 2, 0]), "spans", (1, 1)), 2)

    def test_rows_without_samples(self):
        for way in WAYS:
            for row in ([], [(3, None)], [(1, None), (2, None)]):
                self.assertEqual(fewest(row, way, (0, 1)), ([], []))
                self.assertEqual(many(row, way, (1, 2)), 0)

    def test_forty_entries_are_taken(self):
        for way in WAYS:
            self.assertEqual(many(samples_of(range(40)), way, (0, 1)), 1)

    def refused(self, error, row, way, bound):
        for asked in (fewest, many):
            with self.assertRaises(LathError) as caught:
                asked(row, way, bound)
            self.assertIs(caught.exception.__class__, error)
        return caught.exception

    def test_no_way(self):
        for way in ("", "Apart", "apart ", "ap", "least", "x" * 500, "joined\n"):
            self.refused(NoWay, GOOD, way, (0, 1))
        self.assertEqual(many(GOOD, "apart", (0, 1)), 3)

    def test_no_bound(self):
        for way in WAYS:
            for bound in ((-1, 1), (-1, 10 ** 2000), (-10 ** 1999, 1)):
                self.refused(NoBound, GOOD, way, bound)
            self.assertEqual(many(GOOD, way, (0, 1)), {"apart": 3, "joined": 3, "spans": 3, "chain": 3}[way])

    def test_no_row_tells_the_least_place(self):
        for way in WAYS:
            for at, row in WRONG_ROWS:
                ahead = list(row)
                self.assertEqual(self.refused(NotARow, row, way, (1, 2)).at, at)
                self.assertEqual(row, ahead)
                self.assertEqual(many(row[:at], way, (99, 1)), 1 if runs(row[:at]) else 0)

    def test_which_refusal_goes_first(self):
        for at, row in WRONG_ROWS:
            self.refused(NoWay, row, "none", (-1, 2))
            self.refused(NoWay, row, "none", (1, 2))
            self.refused(NoWay, GOOD, "none", (-1, 2))
            for way in WAYS:
                self.refused(NoBound, row, way, (-1, 2))

    def test_within_the_bound_and_none_with_fewer_pieces(self):
        source = seeded(82)
        for _ in range(40):
            row = some_row(source, source.randint(0, 7), 5, source.choice([1, 3]), 3)
            bound = pair(source.choice(SOME_BOUNDS))
            for way in WAYS:
                telling = fewest(row, way, bound)[0]
                self.assertTrue(fits(row, way, bound, telling))
                self.assertLessEqual(number(miss(row, way, telling)), number(bound))
                self.assertEqual(len(telling), sum(FEWEST[way](run, bound) for run in runs(row)), (row, way, bound))

    def test_one_run_and_none_with_fewer_pieces(self):
        source = seeded(83)
        seen = []
        for _ in range(40):
            run = some_samples(source, source.randint(4, 6), 6, 2, 3)
            bound = pair(source.choice(SOME_BOUNDS[1:]))
            for way in WAYS:
                telling = fewest(run, way, bound)[0]
                self.assertTrue(fits(run, way, bound, telling))
                self.assertEqual(len(telling), FEWEST[way](run, bound), (run, way, bound))
                seen.append((way, len(telling)))
        for way in WAYS:
            self.assertTrue({(way, 2), (way, 3)} <= set(seen))

    def test_large_numbers(self):
        source = seeded(84)
        huge = 10 ** 1999
        rows = [
            some_samples(source, 10, 10 ** 60, 10 ** 30, 10 ** 40),
            [sample(-huge, huge), sample(0, Fraction(1, huge)), sample(huge, huge), sample(huge + 1, 0)],
        ]
        for row in rows:
            for way in WAYS:
                for bound in ((0, 1), (1, huge), (10 ** 59, 7)):
                    self.assertTrue(fits(row, way, bound, fewest(row, way, bound)[0]))

    def test_whose_lists(self):
        row = samples_of([0, 1, 0, 1, 5]) + [(7, None)] + samples_of([1, 2, 9], 8)
        ahead = list(row)
        for way in WAYS:
            awaited = fewest(row, way, (0, 1))
            told = fewest(row, way, (0, 1))
            told[0].clear()
            if way in ("spans", "chain"):
                told[1][0][0].append(99)
                told[1][0][1].clear()
            told[1].append("more")
            self.assertEqual(row, ahead)
            self.assertEqual(fewest(row, way, (0, 1)), awaited)
            own = list(row)
            kept = fewest(own, way, (0, 1))
            own.clear()
            self.assertEqual(kept, awaited)
            self.assertEqual(fewest([], way, (0, 1)), ([], []))
            fewest([], way, (0, 1))[0].append("more")
            self.assertEqual(fewest([], way, (0, 1)), ([], []))


if __name__ == "__main__":
    unittest.main()
