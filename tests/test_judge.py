import unittest
from fractions import Fraction
from itertools import combinations

from helper import is_lowest, number, pair, piece_height, sample, samples_of, seeded, some_fraction, some_row
from lath.judge import fits, miss
from lath.rows import all_samples, runs
from lath.tell import WAYS, fewest

HAIR = Fraction(1, 10 ** 200)
SOME_BOUNDS = [Fraction(0), Fraction(1, 3), Fraction(1), Fraction(3, 2), Fraction(3)]


def piece(start, first, end, last):
    return (pair(start), pair(first), pair(end), pair(last))


def all_shares(many, runs_left):
    """All ways to give so many pieces to so many runs, one or more to each, in order."""
    if runs_left == 0:
        return [[]] if many == 0 else []
    cuts = combinations(range(1, many), runs_left - 1)
    ends = [(0,) + inner + (many,) for inner in cuts] if many >= runs_left else []
    return [list(zip(told, told[1:])) for told in ends]


def is_apart(run, pieces):
    starts = [number(told[0]) for told in pieces]
    ends = [number(told[2]) for told in pieces]
    moments = [moment for moment, value in run]
    if starts[0] != moments[0] or ends[-1] != moments[-1]:
        return False
    if not all(end in moments and start <= end for start, end in zip(starts, ends)):
        return False
    behind = [moments[moments.index(end) + 1:][:1] for end in ends[:-1]]
    return behind == [[start] for start in starts[1:]]


def is_hanging(run, pieces):
    moments = [moment for moment, value in run]
    if number(pieces[0][0]) != moments[0] or number(pieces[-1][2]) != moments[-1]:
        return False
    if len(run) == 1:
        return len(pieces) == 1
    joined = all(one[2:] == other[:2] for one, other in zip(pieces, pieces[1:]))
    return joined and all(number(told[0]) < number(told[2]) for told in pieces)


def is_telling(row, way, telling):
    """The words of the point, tried for all ways to give the pieces to the runs."""
    found = runs(row)
    if any(told[0] == told[2] and told[1] != told[3] for told in telling):
        return False
    points = [((moment, 1), value) for moment, value in all_samples(row)]
    if way in ("spans", "chain") and not all(told[:2] in points and told[2:] in points for told in telling):
        return False
    lies = is_apart if way in ("apart", "spans") else is_hanging
    for shares in all_shares(len(telling), len(found)):
        if all(lies(run, telling[one:other]) for run, (one, other) in zip(found, shares)):
            return True
    return False


def awaited_miss(row, way, telling):
    if not is_telling(row, way, telling):
        return None
    worst = Fraction(0)
    for moment, value in all_samples(row):
        over = [told for told in telling if number(told[0]) <= moment <= number(told[2])]
        worst = max([worst] + [abs(piece_height(told, moment) - number(value)) for told in over])
    return pair(worst)


ROW = [sample(0, 0), sample(2, 4), sample(3, 1), (4, None), sample(5, 7), (6, None), sample(8, 1), sample(9, 2)]
ALONE = piece(5, 7, 5, 7)
LAST = piece(8, 1, 9, 2)


class TestApartAndSpans(unittest.TestCase):
    def test_good_ones(self):
        good = [piece(0, 0, 2, 4), piece(3, 1, 3, 1), ALONE, LAST]
        for way in ("apart", "spans"):
            self.assertEqual(miss(ROW, way, good), (0, 1))
        self.assertEqual(miss(ROW, "apart", [piece(0, 1, 3, 1), piece(5, 6, 5, 6), piece(8, 0, 9, 0)]), (3, 1))
        self.assertEqual(miss(ROW, "spans", [piece(0, 0, 3, 1), ALONE, LAST]), (10, 3))

    def test_a_piece_too_few_or_too_many(self):
        good = [piece(0, 0, 2, 4), piece(3, 1, 3, 1), ALONE, LAST]
        for way in ("apart", "spans"):
            for place in range(4):
                self.assertIsNone(miss(ROW, way, good[:place] + good[place + 1:]))
                self.assertIsNone(miss(ROW, way, good[:place] + good[place:place + 1] + good[place:]))
            self.assertIsNone(miss(ROW, way, good + [piece(9, 2, 9, 2)]))
            self.assertIsNone(miss(ROW, way, [piece(-1, 0, -1, 0)] + good))
            self.assertIsNone(miss(ROW, way, []))
            self.assertIsNone(miss(ROW, way, good[::-1]))

    def test_a_piece_that_starts_or_ends_elsewhere(self):
        wrong = [
            [piece(1, 0, 2, 4), piece(3, 1, 3, 1)], [piece(0, 0, 1, 4), piece(3, 1, 3, 1)],
            [piece(0, 0, 2, 4), piece(2, 4, 3, 1)], [piece(0, 0, 2, 4), piece(Fraction(5, 2), 1, 3, 1)],
            [piece(0, 0, Fraction(5, 2), 4), piece(3, 1, 3, 1)], [piece(-1, 0, 3, 1)], [piece(0, 0, 4, 1)],
            [piece(0, 0, 0, 0), piece(3, 1, 3, 1)], [piece(0, 0, 2, 4), piece(3, 1, 2, 4)],
            [piece(0, 0, 2, 4), piece(3, 1, 0, 0)], [piece(2, 4, 3, 1)], [piece(0, 0, 2, 4)],
        ]
        for pieces in wrong:
            for way in ("apart", "spans"):
                self.assertIsNone(miss(ROW, way, pieces + [ALONE, LAST]), pieces)

    def test_a_bottom_that_is_no_1(self):
        row = samples_of([0, 2, 4])
        for way in ("apart", "spans"):
            self.assertEqual(miss(row, way, [piece(0, 0, 2, 4)]), (0, 1))
            self.assertIsNone(miss(row, way, [((0, 1), (0, 1), (2, 3), (4, 1))]))
            self.assertIsNone(miss(row, way, [((0, 1), (0, 1), (1, 2), (4, 1)), ((2, 1), (4, 1), (2, 1), (4, 1))]))
            self.assertIsNone(miss(row[1:], way, [((1, 2), (2, 1), (2, 1), (4, 1))]))

    def test_over_a_gap_mark(self):
        for way in ("apart", "spans"):
            self.assertIsNone(miss(ROW, way, [piece(0, 0, 3, 1), piece(5, 7, 9, 2)]))
            self.assertIsNone(miss(ROW, way, [piece(0, 0, 5, 7), LAST]))
            self.assertIsNone(miss(ROW, way, [piece(0, 0, 9, 2)]))

    def test_one_moment_with_two_heights(self):
        for way in ("apart", "spans"):
            self.assertIsNone(miss([sample(5, 7)], way, [piece(5, 7, 5, 8)]))
            self.assertIsNone(miss([sample(5, 7)], way, [piece(5, 8, 5, 7)]))
        self.assertEqual(miss([sample(5, 7)], "apart", [piece(5, 8, 5, 8)]), (1, 1))

    def test_spans_off_their_samples(self):
        row = samples_of([0, 2, 4])
        for pieces in ([piece(0, 1, 2, 4)], [piece(0, 0, 2, 5)], [piece(0, 0, 1, 2), piece(2, 0, 2, 0)]):
            self.assertIsNone(miss(row, "spans", pieces))
            self.assertIsNotNone(miss(row, "apart", pieces))


class TestJoinedAndChain(unittest.TestCase):
    def test_good_ones(self):
        good = [piece(0, 0, 2, 4), piece(2, 4, 3, 1), ALONE, LAST]
        for way in ("joined", "chain"):
            self.assertEqual(miss(ROW, way, good), (0, 1))
            self.assertEqual(miss(ROW, way, [piece(0, 0, 3, 1), ALONE, LAST]), (10, 3))
        bent = [piece(0, 1, Fraction(1, 2), 5), piece(Fraction(1, 2), 5, 3, 1), piece(5, 9, 5, 9), LAST]
        self.assertEqual(miss(ROW, "joined", bent), (2, 1))
        self.assertIsNone(miss(ROW, "chain", bent))

    def test_a_piece_that_holds_no_moment(self):
        row = samples_of([0, 5])
        third = Fraction(1, 3)
        pieces = [piece(0, 0, third, 0), piece(third, 0, 2 * third, 9), piece(2 * third, 9, 1, 6)]
        self.assertEqual(miss(row, "joined", pieces), (1, 1))
        self.assertIsNone(miss(row, "chain", pieces))

    def test_a_piece_too_few_or_too_many(self):
        good = [piece(0, 0, 2, 4), piece(2, 4, 3, 1), ALONE, LAST]
        for way in ("joined", "chain"):
            for place in range(4):
                self.assertIsNone(miss(ROW, way, good[:place] + good[place + 1:]))
                self.assertIsNone(miss(ROW, way, good[:place] + good[place:place + 1] + good[place:]))
            self.assertIsNone(miss(ROW, way, good + [piece(9, 2, 9, 2)]))
            self.assertIsNone(miss(ROW, way, good + [piece(9, 2, 10, 2)]))
            self.assertIsNone(miss(ROW, way, [piece(-1, 0, 0, 0)] + good))
            self.assertIsNone(miss(ROW, way, []))
            self.assertIsNone(miss(ROW, way, good[::-1]))

    def test_heights_or_moments_that_do_not_meet(self):
        wrong = [
            [piece(0, 0, 2, 4), piece(2, 5, 3, 1)], [piece(0, 0, 2, 4), piece(3, 4, 3, 4)],
            [piece(0, 0, 2, 4), piece(Fraction(5, 2), 4, 3, 1)], [piece(0, 0, 2, 4), piece(0, 4, 3, 1)],
            [piece(0, 0, 3, 1), piece(3, 1, 3, 1)], [piece(0, 0, 2, 4), piece(2, -4, 3, 1)],
        ]
        for pieces in wrong:
            for way in ("joined", "chain"):
                self.assertIsNone(miss(ROW, way, pieces + [ALONE, LAST]), pieces)

    def test_a_piece_that_ends_at_or_ahead_of_its_start(self):
        wrong = [
            [piece(0, 0, 0, 0), piece(0, 0, 3, 1)], [piece(0, 0, 2, 4), piece(2, 4, 2, 4), piece(2, 4, 3, 1)],
            [piece(0, 0, 2, 4), piece(2, 4, 0, 0), piece(0, 0, 3, 1)], [piece(0, 0, -1, 4), piece(-1, 4, 3, 1)],
        ]
        for pieces in wrong:
            for way in ("joined", "chain"):
                self.assertIsNone(miss(ROW, way, pieces + [ALONE, LAST]), pieces)
        for way in ("joined", "chain"):
            self.assertIsNone(miss(ROW[:1], way, [piece(0, 0, 0, 0), piece(0, 0, 0, 0)]))

    def test_behind_the_last_moment_or_elsewhere(self):
        row = ROW[:3]
        wrong = [
            [piece(0, 0, 4, 1)], [piece(0, 0, 2, 4), piece(2, 4, 4, 1)], [piece(0, 0, Fraction(7, 2), 1)],
            [piece(1, 0, 3, 1)], [piece(-1, 0, 3, 1)], [piece(0, 0, 2, 4)], [piece(Fraction(1, 2), 0, 3, 1)],
            [piece(0, 0, 4, 1), piece(4, 1, 3, 1)], [piece(0, 0, Fraction(5, 2), 1)],
        ]
        for pieces in wrong:
            for way in ("joined", "chain"):
                self.assertIsNone(miss(row, way, pieces), pieces)

    def test_a_bottom_that_is_no_1(self):
        row = samples_of([0, 2], 1)
        for way in ("joined", "chain"):
            self.assertEqual(miss(row, way, [piece(1, 0, 2, 2)]), (0, 1))
            self.assertIsNone(miss(row, way, [((1, 2), (0, 1), (2, 1), (2, 1))]))
            self.assertIsNone(miss(row, way, [((1, 1), (0, 1), (2, 3), (2, 1))]))
            self.assertIsNone(miss(row[:1], way, [((1, 2), (0, 1), (1, 2), (0, 1))]))

    def test_over_a_gap_mark(self):
        for way in ("joined", "chain"):
            self.assertIsNone(miss(ROW, way, [piece(0, 0, 3, 1), piece(5, 7, 9, 2)]))
            self.assertIsNone(miss(ROW, way, [piece(0, 0, 5, 7), LAST]))
            self.assertIsNone(miss(ROW, way, [piece(0, 0, 3, 1), piece(3, 1, 5, 7), piece(5, 7, 8, 1), LAST]))
            self.assertIsNone(miss(ROW, way, [piece(0, 0, 9, 2)]))

    def test_a_run_of_one_sample(self):
        row = [sample(5, 7)]
        for way in ("joined", "chain"):
            self.assertEqual(miss(row, way, [ALONE]), (0, 1))
            self.assertIsNone(miss(row, way, [piece(5, 7, 5, 8)]))
            self.assertIsNone(miss(row, way, [piece(5, 8, 5, 7)]))
            self.assertIsNone(miss(row, way, [piece(5, 7, 6, 7)]))
            self.assertIsNone(miss(row, way, [piece(4, 7, 5, 7)]))
        self.assertEqual(miss(row, "joined", [piece(5, 9, 5, 9)]), (2, 1))
        self.assertIsNone(miss(row, "chain", [piece(5, 9, 5, 9)]))

    def test_chain_off_its_samples(self):
        row = samples_of([0, 2, 4])
        wrong = [
            [piece(0, 1, 2, 4)], [piece(0, 0, 2, 5)], [piece(0, 0, 1, 3), piece(1, 3, 2, 4)],
            [piece(0, 0, Fraction(1, 2), 1), piece(Fraction(1, 2), 1, 2, 4)],
        ]
        for pieces in wrong:
            self.assertIsNone(miss(row, "chain", pieces))
            self.assertIsNotNone(miss(row, "joined", pieces))


class TestMiss(unittest.TestCase):
    def test_a_row_without_samples(self):
        for way in WAYS:
            for row in ([], [(3, None)], [(3, None), (4, None)]):
                self.assertEqual(miss(row, way, []), (0, 1))
                self.assertIsNone(miss(row, way, [piece(3, 0, 3, 0)]))
                self.assertIsNone(miss(row, way, [piece(4, 0, 3, 0)]))

    def test_samples_above_and_below(self):
        for sign in (1, -1):
            row = [sample(0, 0), sample(1, 5 * sign), sample(2, -6 * sign), sample(3, 0)]
            for way in WAYS:
                self.assertEqual(miss(row, way, [piece(0, 0, 3, 0)]), (6, 1))
            self.assertEqual(miss(row, "apart", [piece(0, sign, 3, sign)]), (7, 1))
            self.assertEqual(miss(row, "joined", [piece(0, -sign, 3, -sign)]), (6, 1))

    def test_any_four_fractions(self):
        source = seeded(91)
        for _ in range(400):
            row = some_row(source, source.randint(0, 3))
            pieces = []
            for _ in range(source.randint(0, 3)):
                pieces.append(tuple(pair(some_fraction(source, 4, 2)) for _ in range(4)))
            for way in WAYS:
                self.assertEqual(miss(row, way, pieces), awaited_miss(row, way, pieces))

    def changed(self, source, telling):
        told = [list(piece) for piece in telling]
        place = source.randrange(len(told))
        part = source.randrange(4)
        deed = source.randrange(7)
        if deed == 0:
            told[place][part] = pair(number(told[place][part]) + source.choice([-1, 1, 2, Fraction(1, 2)]))
        elif deed == 1:
            told.pop(place)
        elif deed == 2:
            told.insert(place, list(told[place]))
        elif deed == 3:
            told[place] = told[place][2:] + told[place][:2]
        elif deed == 4 and place + 1 < len(told):
            told[place:place + 2] = [told[place][:2] + told[place + 1][2:]]
        elif deed == 5:
            mid = (number(told[place][0]) + number(told[place][2])) / 2
            joint = [pair(mid), pair(piece_height(telling[place], mid) + source.choice([0, 0, 1]))]
            told[place:place + 1] = [told[place][:2] + joint, joint + told[place][2:]]
        elif place + 1 < len(told):
            lift = source.choice([-1, 1])
            told[place][3] = pair(number(told[place][3]) + lift)
            told[place + 1][1] = pair(number(told[place + 1][1]) + lift)
        return [tuple(piece) for piece in told]

    def test_told_ones_and_changed_ones(self):
        source = seeded(92)
        seen = []
        for _ in range(250):
            row = some_row(source, source.randint(1, 9), 5, source.choice([1, 3]))
            if not runs(row):
                continue
            bound = pair(source.choice(SOME_BOUNDS))
            for way in WAYS:
                telling = fewest(row, way, bound)[0]
                self.assertEqual(miss(row, way, telling), awaited_miss(row, way, telling))
                self.assertTrue(is_lowest(miss(row, way, telling)))
                self.assertTrue(fits(row, way, bound, telling))
                other = self.changed(source, telling)
                for judged in WAYS:
                    told = miss(row, judged, other)
                    self.assertEqual(told, awaited_miss(row, judged, other), (row, judged, other))
                    seen.append((judged, told is None))
        for way in WAYS:
            self.assertIn((way, True), seen)
            self.assertIn((way, False), seen)

    def test_whose_lists(self):
        row = list(ROW)
        telling = [piece(0, 0, 2, 4), piece(2, 4, 3, 1), ALONE, LAST]
        ahead = list(telling)
        for _ in range(2):
            for way in WAYS:
                miss(row, way, telling)
                fits(row, way, (1, 1), telling)
            self.assertEqual((row, telling), (ROW, ahead))
        self.assertEqual(miss(row, "joined", telling), (0, 1))
        telling.pop()
        self.assertIsNone(miss(row, "joined", telling))


class TestFits(unittest.TestCase):
    def test_at_the_bound_and_a_hair_below(self):
        row = samples_of([0, 2, 0])
        telling = [piece(0, Fraction(1, 3), 2, Fraction(1, 3))]
        self.assertEqual(miss(row, "apart", telling), (5, 3))
        for way in ("apart", "joined"):
            self.assertIs(fits(row, way, (5, 3), telling), True)
            self.assertIs(fits(row, way, (9, 1), telling), True)
            self.assertIs(fits(row, way, pair(Fraction(5, 3) - HAIR), telling), False)
            self.assertIs(fits(row, way, (0, 1), telling), False)
        for way in ("spans", "chain"):
            self.assertIs(fits(row, way, (9, 1), telling), False)
            self.assertIs(fits(row, way, (2, 1), [piece(0, 0, 2, 0)]), True)
            self.assertIs(fits(row, way, pair(2 - HAIR), [piece(0, 0, 2, 0)]), False)

    def test_no_telling(self):
        for way in WAYS:
            self.assertIs(fits(ROW, way, (99, 1), []), False)
            self.assertIs(fits([], way, (0, 1), []), True)
            self.assertIs(fits([], way, (99, 1), [piece(0, 0, 0, 0)]), False)
            self.assertIs(fits([(0, None)], way, (0, 1), []), True)


if __name__ == "__main__":
    unittest.main()
