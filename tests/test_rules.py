import unittest
from fractions import Fraction
from itertools import product

from helper import FEWEST, is_lowest, number, pair, sample, samples_of, seeded, some_row, some_samples
from lath.errors import LathError, NoPair, NotARow, TooFew
from lath.least import least
from lath.rows import all_samples, checked, runs
from lath.rules import answer, parting
from lath.tell import WAYS, many

HAIR = Fraction(1, 10 ** 200)
BOUNDS = [Fraction(0), Fraction(1, 3), Fraction(2, 3), Fraction(1), Fraction(2), Fraction(4), 4 + HAIR, Fraction(50)]
TIED = ("spans", "chain")


def fewest_rules():
    return [("fewest", way, pair(bound)) for way in WAYS for bound in BOUNDS]


def least_rules(most=12):
    return [("least", way, pieces) for way in WAYS for pieces in range(1, most + 1)]


def second_fewest(rule, row):
    return sum(FEWEST[rule[1]](run, rule[2]) for run in runs(row))


def second_least(rule, row):
    """The least of nought and all worths of threes at which the fewest pieces are not too many."""
    worths = {Fraction(0)}
    for run in runs(row):
        for i, j, k in product(range(len(run)), repeat=3):
            if i < j < k:
                steep = (number(run[k][1]) - number(run[i][1])) / (run[k][0] - run[i][0])
                stood = abs(number(run[j][1]) - number(run[i][1]) - steep * (run[j][0] - run[i][0]))
                worths.add(stood if rule[1] in TIED else stood / 2)
    for worth in sorted(worths):
        if sum(FEWEST[rule[1]](run, pair(worth)) for run in runs(row)) <= rule[2]:
            return pair(worth)
    raise AssertionError("the greatest worth needs one piece")


def short_rows(source, most, gaps):
    """Rows of up to so many samples, with steps of all sizes and values small and large."""
    rows = []
    for _ in range(60):
        row = some_samples(source, source.randint(0, most), source.choice([1, 3, 9, 200]), source.choice([1, 3]))
        if gaps and source.random() < 0.3:
            cut = source.randint(0, len(row))
            row = [(2 * moment, value) for moment, value in row]
            middle = row[cut - 1][0] + 1 if cut > 0 else (row[0][0] - 1 if row else 0)
            row = row[:cut] + [(middle, None)] + row[cut:]
        rows.append(row)
    return rows


class TestAnswer(unittest.TestCase):
    def test_what_many_and_least_tell(self):
        source = seeded(161)
        for _ in range(40):
            row = some_row(source, source.randint(0, 12), 6)
            for way in WAYS:
                for bound in ((0, 1), (1, 2), (3, 1)):
                    self.assertEqual(answer(("fewest", way, bound), row), many(row, way, bound))
                most = max(1, len(runs(row))) + source.randint(0, 3)
                self.assertEqual(answer(("least", way, most), row), least(row, way, most)[0])

    def test_by_hand(self):
        row = samples_of([0, 4, 0])
        self.assertEqual([answer(("fewest", way, (2, 1)), row) for way in WAYS], [1, 1, 2, 2])
        self.assertEqual([answer(("least", way, 1), row) for way in WAYS], [(2, 1), (2, 1), (4, 1), (4, 1)])
        for way in WAYS:
            self.assertEqual(answer(("fewest", way, (2, 1)), []), 0)
            self.assertEqual(answer(("least", way, 1), []), (0, 1))

    def refused(self, error, rule, row):
        with self.assertRaises(LathError) as caught:
            answer(rule, row)
        self.assertIs(caught.exception.__class__, error)
        return caught.exception

    def test_refusals(self):
        wrong = [(0, [(0, (2, 2))]), (1, [(3, None), (3, None), (9, (2, 2))]), (40, samples_of([1] * 45))]
        three_runs = [sample(0, 1), (1, None), sample(2, 1), (3, None), sample(4, 1)]
        for way in WAYS:
            for at, row in wrong:
                self.assertEqual(self.refused(NotARow, ("fewest", way, (0, 1)), row).at, at)
                self.assertEqual(self.refused(NotARow, ("least", way, 1), row).at, at)
            self.refused(TooFew, ("least", way, 1), three_runs)
            self.refused(TooFew, ("least", way, 2), three_runs)
            self.refused(NotARow, ("least", way, 1), three_runs + [(4, None)])
            self.assertEqual(answer(("least", way, 3), three_runs), (0, 1))
            self.assertEqual(answer(("fewest", way, (0, 1)), three_runs), 3)


class PartingCase(unittest.TestCase):
    def look_at(self, rule, other):
        row = parting(rule, other)
        if row is not None:
            self.assertEqual(checked(row), row)
            self.assertEqual([entry[0] for entry in row], list(range(len(row))))
            self.assertTrue(all(is_lowest(entry[1]) for entry in row))
            self.assertNotEqual(answer(rule, row), answer(other, row), (rule, other))
        self.assertEqual(len(parting(other, rule) or []), len(row or []))
        return row


class TestPartingOfFewest(PartingCase):
    def test_which_part_and_on_how_many_samples(self):
        # One piece bears three samples up to a stand of twice the bound, or of the bound where it is tied.
        for rule, other in product(fewest_rules(), repeat=2):
            row = self.look_at(rule, other)
            reach = [number(one[2]) * (1 if one[1] in TIED else 2) for one in (rule, other)]
            apart_at_nought = {rule[1], other[1]} == {"apart", "spans"} and reach == [0, 0]
            if rule == other or apart_at_nought:
                self.assertIsNone(row, (rule, other))
            else:
                self.assertEqual(len(row), 3 if reach[0] != reach[1] else 4, (rule, other))

    def test_the_told_rows_by_a_second_reckoning(self):
        for rule, other in product(fewest_rules(), repeat=2):
            row = parting(rule, other)
            if row is not None:
                self.assertNotEqual(second_fewest(rule, row), second_fewest(other, row), (rule, other))

    def test_no_row_with_fewer_samples_parts(self):
        source = seeded(162)
        rules = fewest_rules()
        for rule, other in product(rules, repeat=2):
            row = parting(rule, other)
            if row is None:
                continue
            for shorter in source.sample(short_rows(source, len(row) - 1, True), 6):
                self.assertLess(len(all_samples(shorter)), len(row))
                self.assertEqual(second_fewest(rule, shorter), second_fewest(other, shorter), (rule, other, shorter))

    def test_three_samples_part_by_the_stand_alone(self):
        # Each stand at, just below and just above a reach: like reaches never part on three samples.
        for rule in fewest_rules():
            reach = number(rule[2]) * (1 if rule[1] in TIED else 2)
            for stood in (reach, -reach, reach + HAIR, -reach - HAIR, reach - HAIR, 2 * reach + 1):
                for step in (1, 5):
                    row = [sample(-1, 0), sample(0, stood), sample(step, 0)]
                    awaited = 1 if abs(stood) <= reach else 2
                    self.assertEqual(second_fewest(rule, row), awaited)
                    self.assertEqual(answer(rule, row), awaited)

    def test_apart_and_spans_with_nought_are_alike(self):
        source = seeded(163)
        one = ("fewest", "apart", (0, 1))
        other = ("fewest", "spans", (0, 1))
        for _ in range(300):
            row = some_row(source, source.randint(0, 10), 1, 1, 2)
            self.assertEqual(second_fewest(one, row), second_fewest(other, row))
            self.assertEqual(answer(one, row), answer(other, row))

    def test_large_bounds(self):
        huge = 10 ** 1999
        rules = [("fewest", way, bound) for way in WAYS for bound in ((huge, 1), (huge + 1, huge), (1, huge))]
        for rule, other in product(rules, repeat=2):
            self.assertEqual(self.look_at(rule, other) is None, rule == other)


class TestPartingOfLeast(PartingCase):
    def without_miss(self, rule):
        return rule[2] + 1 if rule[1] in ("joined", "chain") else 2 * rule[2]

    def test_which_part_and_on_how_many_samples(self):
        for rule, other in product(least_rules(), repeat=2):
            row = parting(rule, other)
            ways = {rule[1], other[1]}
            one_piece = rule[2] == other[2] == 1 and ways in ({"apart", "joined"}, {"spans", "chain"})
            if rule == other or one_piece:
                self.assertIsNone(row, (rule, other))
            else:
                self.assertEqual(len(row), 1 + min(self.without_miss(rule), self.without_miss(other)))
                self.assertEqual([entry[0] for entry in row], list(range(len(row))))
                self.assertNotEqual(answer(rule, row), answer(other, row), (rule, other))

    def test_the_told_rows_by_a_second_reckoning(self):
        for rule, other in product(least_rules(2), repeat=2):
            row = self.look_at(rule, other)
            if row is not None:
                self.assertNotEqual(second_least(rule, row), second_least(other, row), (rule, other))

    def test_no_row_with_fewer_samples_parts(self):
        # Whatever the samples are, so many are told without a miss: the answers are nought there.
        source = seeded(164)
        for rule in least_rules():
            for row in source.sample(short_rows(source, self.without_miss(rule), False), 8):
                self.assertEqual(answer(rule, row), (0, 1), (rule, row))
            if rule[2] < 3:
                for row in source.sample(short_rows(source, self.without_miss(rule), False), 4):
                    self.assertLessEqual(second_fewest(rule[:2] + ((0, 1),), row), rule[2])

    def test_one_piece_is_one_piece(self):
        source = seeded(165)
        for ways in (("apart", "joined"), ("spans", "chain")):
            rules = [("least", way, 1) for way in ways]
            for row in short_rows(source, 9, False):
                self.assertEqual(answer(rules[0], row), answer(rules[1], row))
            for row in short_rows(source, 5, False)[:25]:
                self.assertEqual(second_least(rules[0], row), second_least(rules[1], row))


class TestPairs(PartingCase):
    def test_no_pair_of_unlike_kinds(self):
        for way, other in product(WAYS, repeat=2):
            for most in (1, 12):
                for rules in ((("fewest", way, (0, 1)), ("least", other, most)),
                              (("least", way, most), ("fewest", other, (7, 2)))):
                    with self.assertRaises(LathError) as caught:
                        parting(*rules)
                    self.assertIs(caught.exception.__class__, NoPair)

    def test_a_rule_with_itself(self):
        for rule in fewest_rules() + least_rules():
            self.assertIsNone(parting(rule, rule))

    def test_whose_lists(self):
        rules = (("fewest", "apart", (1, 1)), ("fewest", "joined", (1, 1)))
        awaited = parting(*rules)
        told = parting(*rules)
        told.clear()
        self.assertEqual(parting(*rules), awaited)
        rules = (("least", "apart", 3), ("least", "joined", 5))
        awaited = parting(*rules)
        parting(*rules).append("more")
        self.assertEqual(parting(*rules), awaited)
        row = samples_of([1, 5, 2])
        ahead = list(row)
        for rule in fewest_rules() + least_rules():
            answer(rule, row)
        self.assertEqual(row, ahead)


if __name__ == "__main__":
    unittest.main()
