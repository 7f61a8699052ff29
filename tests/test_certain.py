import unittest
from fractions import Fraction

from helper import FEWEST, is_lowest, number, pair, sample, samples_of, seeded, some_fraction, some_row, some_samples
from lath.bends import Bend
from lath.certain import few, sure
from lath.rows import runs
from lath.stretches import stretches
from lath.tell import WAYS, fewest, many
from lath.tied import chain, spans

SOME_BOUNDS = [Fraction(0), Fraction(1, 3), Fraction(1), Fraction(3, 2), Fraction(3)]
TIED = ("spans", "chain")


def settled_of(row, moment):
    return [entry for entry in row if entry[0] <= moment]


def under_way(settled):
    """The settled entries parted behind the last gap mark."""
    gaps = [place for place, entry in enumerate(settled) if entry[1] is None]
    cut = gaps[-1] + 1 if gaps else 0
    return settled[:cut], settled[cut:]


def links_ended(run, bound):
    bend = Bend(bound)
    return len([told for told in [bend.take(one) for one in run] if told is not None])


def awaited_many(row, way, bound, moment):
    """How many pieces are certain."""
    ended, run = under_way(settled_of(row, moment))
    many_ahead = many(ended, way, bound)
    if way in TIED or not run:
        return many_ahead
    if way == "apart":
        return many_ahead + len(stretches(run, bound)) - 1
    return many_ahead + max(0, links_ended(run, bound) - 1)


def moments_about(row):
    moments = [entry[0] for entry in row]
    told = [moment + step for moment in moments for step in (-1, 0, 1)] or [0]
    return sorted(set(told + [told[0] - 10 ** 20, told[-1] + 10 ** 20]))


def behind_any(source, settled, moment):
    """A row with the same entries up to the moment and others behind it."""
    behind = []
    when = max([moment] + [entry[0] for entry in settled])
    for _ in range(source.randint(0, 6)):
        when += source.randint(1, 3)
        behind.append((when, None if source.random() < 0.2 else pair(some_fraction(source, 6, 2))))
    return settled + behind


class TestSure(unittest.TestCase):
    def test_by_hand_apart(self):
        row = samples_of([0, 1, 5, 6, 0, 3])
        told = fewest(row, "apart", (0, 1))[0]
        self.assertEqual(len(told), 3)
        awaited = {-1: 0, 0: 0, 1: 0, 2: 1, 3: 1, 4: 2, 5: 2, 99: 2}
        for moment, certain in awaited.items():
            self.assertEqual(sure(row, "apart", (0, 1), moment), told[:certain])

    def test_by_hand_joined(self):
        row = samples_of([0, 1, 0, 1, 0, 1])
        told = fewest(row, "joined", (0, 1))[0]
        self.assertEqual(len(told), 5)
        awaited = {-1: 0, 0: 0, 1: 0, 2: 0, 3: 1, 4: 2, 5: 3, 99: 3}
        for moment, certain in awaited.items():
            self.assertEqual(sure(row, "joined", (0, 1), moment), told[:certain])

    def test_a_settled_gap_mark_ends_a_run(self):
        row = samples_of([0, 1, 0, 1]) + [(6, None), (7, None), sample(9, 2), sample(11, 4)]
        for way in WAYS:
            told = fewest(row, way, (0, 1))[0]
            run = many(row[:4], way, (0, 1))
            for moment in (6, 7, 8, 9, 10, 11, 12, 10 ** 30):
                self.assertEqual(sure(row, way, (0, 1), moment), told[:run])
            self.assertLess(len(sure(row, way, (0, 1), 5)), run)
            self.assertEqual(sure(row + [(12, None)], way, (0, 1), 11), told[:run])
            self.assertEqual(sure(row + [(12, None)], way, (0, 1), 12), told)
            self.assertEqual(sure([(-5, None)] + row, way, (0, 1), 8), told[:run])

    def test_tied_ones_tell_none_of_the_run_under_way(self):
        source = seeded(121)
        for way in TIED:
            for row in (samples_of([0, 9] * 20), some_samples(source, 40)):
                for moment in moments_about(row):
                    self.assertEqual(sure(row, way, (0, 1), moment), [])

    def test_rows_without_samples(self):
        for way in WAYS:
            for row in ([], [(3, None)], [(3, None), (4, None)]):
                for moment in (-10 ** 30, 2, 3, 4, 5, 10 ** 30):
                    self.assertEqual(sure(row, way, (0, 1), moment), [])
            for moment in (2, 3, 4):
                self.assertEqual(sure([sample(3, 1)], way, (0, 1), moment), [])

    def test_they_are_the_first_pieces_whatever_comes_behind(self):
        source = seeded(122)
        seen = []
        for _ in range(120):
            row = some_row(source, source.randint(0, 14), 6, source.choice([1, 4]))
            if source.random() < 0.5:
                row = [entry for entry in row if entry[1] is not None]
            bound = pair(source.choice(SOME_BOUNDS))
            moment = source.choice(moments_about(row))
            for way in WAYS:
                told = sure(row, way, bound, moment)
                self.assertEqual(len(told), awaited_many(row, way, bound, moment), (row, way, bound, moment))
                self.assertEqual(told, fewest(row, way, bound)[0][:len(told)])
                seen.append((way, len(told) > 0))
                for _ in range(6):
                    other = behind_any(source, settled_of(row, moment), moment)
                    self.assertEqual(fewest(other, way, bound)[0][:len(told)], told)
                    self.assertEqual(sure(other, way, bound, moment), told)
        for way in WAYS:
            self.assertTrue({(way, True), (way, False)} <= set(seen))

    def test_a_last_stretch_and_two_links_may_still_change(self):
        # So that no more could be called certain.
        self.assertNotEqual(fewest(samples_of([0, 1, 2]), "apart", (1, 1))[0],
                            fewest(samples_of([0, 1]), "apart", (1, 1))[0])
        row = samples_of([0, 1, 0])
        ahead = fewest(row, "joined", (0, 1))[0]
        self.assertNotEqual(fewest(row + [sample(3, 1)], "joined", (1, 4))[0][0], ahead[0])
        self.assertEqual(sure(row, "joined", (0, 1), 2), [])

    def test_whose_lists(self):
        row = samples_of([0, 1, 0, 1, 5]) + [(7, None)] + samples_of([1, 2, 9], 8)
        ahead = list(row)
        for way in WAYS:
            awaited = sure(row, way, (0, 1), 9)
            sure(row, way, (0, 1), 9).clear()
            self.assertEqual(row, ahead)
            self.assertEqual(sure(row, way, (0, 1), 9), awaited)
            self.assertEqual(few(row, way, (0, 1), 9), few(ahead, way, (0, 1), 9))
            self.assertEqual(row, ahead)


def meeting(run, first, bound):
    """Whether some line from the sample at a place bears all samples of the run behind it, by Python's fractions."""
    start, value = run[first][0], number(run[first][1])
    lows = [(number(one) - number(bound) - value) / (moment - start) for moment, one in run[first + 1:]]
    highs = [(number(one) + number(bound) - value) / (moment - start) for moment, one in run[first + 1:]]
    return not lows or max(lows) <= min(highs)


def awaited_few(row, way, bound, moment):
    """The last piece of the run under way begins at some place, ahead of which a second reckoning counts."""
    ended, run = under_way(settled_of(row, moment))
    total = sum(FEWEST[way](one, bound) for one in runs(ended))
    if not run:
        return total
    best = FEWEST[way](run, bound)
    if way in TIED:
        for first in range(len(run)):
            if meeting(run, first, bound):
                ahead = run[:first] if way == "spans" else run[:first + 1]
                many_ahead = FEWEST[way](ahead, bound) if first > 0 else 0
                best = min(best, many_ahead + 1)
    return total + best


class TestFew(unittest.TestCase):
    def look_at(self, row, way, bound, moment):
        told = few(row, way, bound, moment)
        self.assertIsInstance(told, tuple)
        least, hint = told
        settled = settled_of(row, moment)
        if hint is None:
            self.assertEqual(many(settled, way, bound), least)
        else:
            self.assertIn(way, TIED)
            self.assertEqual(hint[0], moment + 1)
            self.assertTrue(is_lowest(hint[1]))
            self.assertGreater(many(settled, way, bound), least)
            self.assertEqual(many(settled + [hint], way, bound), least)
        return told

    def test_by_hand(self):
        # The chord from 0 to 3 misses by 4/3; a sample at 4 with the value 0 would end a level piece.
        row = samples_of([0, 0, 1, -1])
        for way in TIED:
            self.assertEqual(many(row, way, (1, 1)), 2)
            least, hint = self.look_at(row, way, (1, 1), 3)
            self.assertEqual((least, hint[0]), (1, 4))
            self.assertEqual(hint, (4, (0, 1)))
            least, hint = self.look_at(row, way, (1, 1), 10 ** 30)
            self.assertEqual((least, hint[0]), (1, 10 ** 30 + 1))
        for way in ("apart", "joined"):
            self.assertEqual(few(row, way, (1, 1), 3), (1, None))

    def test_nothing_settled(self):
        for way in WAYS:
            for row in ([], samples_of([0, 0, 1, -1]), [(0, None)]):
                self.assertEqual(few(row, way, (1, 1), -1), (0, None))
                self.assertEqual(few(row, way, (1, 1), -10 ** 40), (0, None))
            self.assertEqual(few([], way, (1, 1), 5), (0, None))
            self.assertEqual(few([(0, None), (1, None)], way, (1, 1), 5), (0, None))

    def test_a_settled_gap_mark_at_the_end(self):
        row = samples_of([0, 0, 1, -1]) + [(6, None), sample(7, 1)]
        for way in TIED:
            self.assertEqual(few(row, way, (1, 1), 5)[0], 1)
            self.assertEqual(few(row, way, (1, 1), 6), (2, None))
            self.assertEqual(few(row, way, (1, 1), 7), (3, None))
            self.assertEqual(few(row[:-1], way, (1, 1), 10 ** 20), (2, None))

    def test_one_sample(self):
        for way in WAYS:
            self.assertEqual(few([sample(3, 1)], way, (0, 1), 3), (1, None))
            self.assertEqual(few([sample(3, 1), sample(4, 1)], way, (0, 1), 8), (1, None))
            self.assertEqual(few([sample(3, 1)], way, (0, 1), 2), (0, None))

    def test_with_a_bound_of_nought_nothing_is_spared(self):
        source = seeded(123)
        for _ in range(40):
            row = some_row(source, source.randint(0, 9), 2, 1)
            for way in WAYS:
                self.assertEqual(few(row, way, (0, 1), 100), (many(row, way, (0, 1)), None))

    def test_against_a_second_reckoning(self):
        source = seeded(124)
        seen = []
        for _ in range(250):
            row = some_row(source, source.randint(0, 9), 4, source.choice([1, 3]))
            if source.random() < 0.6:
                row = [entry for entry in row if entry[1] is not None]
            bound = pair(source.choice(SOME_BOUNDS[1:]))
            moment = source.choice(moments_about(row))
            for way in TIED:
                told = self.look_at(row, way, bound, moment)
                self.assertEqual(told[0], awaited_few(row, way, bound, moment), (row, way, bound, moment))
                seen.append((way, told[1] is None))
            for way in ("apart", "joined"):
                settled = settled_of(row, moment)
                self.assertEqual(few(row, way, bound, moment), (many(settled, way, bound), None))
        for way in TIED:
            self.assertTrue({(way, True), (way, False)} <= set(seen))

    def test_none_laid_behind_gives_fewer(self):
        source = seeded(125)
        for _ in range(60):
            row = some_samples(source, source.randint(3, 7), 3, 1, 2)
            bound = pair(source.choice([1, Fraction(3, 2)]))
            moment = row[-1][0] + source.choice([0, 0, 2])
            for way in WAYS:
                least = few(row, way, bound, moment)[0]
                for value in range(-9, 10):
                    one = row + [sample(moment + 1, value)]
                    self.assertGreaterEqual(many(one, way, bound), least)
                    self.assertGreaterEqual(many(row + [sample(moment + 3, value)], way, bound), least)
                    two = one + [sample(moment + 2, source.randint(-9, 9))]
                    self.assertGreaterEqual(many(two, way, bound), least)
                for _ in range(10):
                    self.assertGreaterEqual(many(behind_any(source, row, moment), way, bound), least)

    def test_entries_behind_the_moment_do_not_count(self):
        source = seeded(126)
        for _ in range(40):
            row = some_row(source, 9, 4, 1)
            moment = source.choice(moments_about(row)[1:-1])
            for way in WAYS:
                alone = settled_of(row, moment)
                self.assertEqual(few(row, way, (1, 1), moment)[0], few(alone, way, (1, 1), moment)[0])

    def test_forty_settled_entries(self):
        source = seeded(127)
        seen = []
        for _ in range(12):
            row = some_samples(source, 40, 3, 1)
            for way in WAYS:
                least, hint = few(row, way, (2, 1), row[-1][0])
                told = {"spans": spans, "chain": chain}.get(way)
                if hint is None:
                    self.assertEqual(least, many(row, way, (2, 1)))
                else:
                    self.assertEqual(hint[0], row[-1][0] + 1)
                    self.assertEqual(len(told(row + [hint], (2, 1))[0]), least)
                    self.assertGreater(many(row, way, (2, 1)), least)
                    seen.append(way)
        self.assertEqual(set(seen), set(TIED))

    def test_large_numbers(self):
        huge = 10 ** 1999
        row = [sample(-huge, 0), sample(0, huge), sample(1, -huge), sample(huge, Fraction(1, huge))]
        for way in WAYS:
            self.look_at(row, way, (huge, 1), huge)
            self.assertEqual(few(row, way, (huge, 1), huge)[0], 1)


if __name__ == "__main__":
    unittest.main()
