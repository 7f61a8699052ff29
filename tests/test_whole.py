"""What the document promises over the whole program: many rows, in each of the four ways, by all modules together."""

import unittest
from fractions import Fraction
from itertools import combinations

from helper import number, pair, sample, samples_of, seeded, some_row, some_samples, stand_of
from lath.certain import few
from lath.desk import Desk
from lath.judge import fits, miss
from lath.keeper import Keeper
from lath.least import least
from lath.papers import shows
from lath.rows import runs
from lath.tell import WAYS, fewest
from lath.texts import read_paper, read_row, read_telling, show_paper, show_row
from lath.words import ratio_word, read_ratio

HAIR = Fraction(1, 10 ** 200)
TIED = ("spans", "chain")


def some_rows():
    source = seeded(181)
    rows = [[], [(3, None)], samples_of([0, 1] * 10), [sample(place, place * place) for place in range(-9, 9)]]
    for _ in range(30):
        rows.append(some_row(source, source.randint(1, 18), source.choice([2, 6, 500]), source.choice([1, 4])))
        rows.append(some_samples(source, source.randint(1, 12), source.choice([2, 6, 500]), source.choice([1, 4])))
    return rows


def longest(run, wanted):
    """As many threes of the run as may be, each beginning no earlier than the one ahead ends."""
    best = [[] for _ in run]
    for last in range(len(run)):
        best[last] = list(best[last - 1]) if last > 0 else []
        for i, j in combinations(range(last), 2):
            if len(best[i]) >= len(best[last]) and wanted(stand_of(run[i], run[j], run[last])):
                best[last] = best[i] + [(run[i][0], run[j][0], run[last][0])]
    return best[-1]


def greatest_paper(row, way, bound, at=False):
    """A paper with as many threes as any paper by "apart" or "joined" may have."""
    twice = 2 * number(bound)

    def beyond(stood):
        return stood != 0 and (abs(stood) > twice or (at and abs(stood) == twice))

    kinds = [beyond] if way == "apart" else [lambda one: one > 0 and beyond(one), lambda one: one < 0 and beyond(one)]
    return [three for wanted in kinds for run in runs(row) for three in longest(run, wanted)]


def somewhat_changed(source, way, paper, row):
    """Papers near to the told one, that might show more."""
    moments = [entry[0] for entry in row] + [0]
    told = []
    for _ in range(12):
        more = tuple(sorted(source.choice(moments) for _ in range(3)))
        if way in TIED:
            parts = []
            for numbers, threes in paper:
                cut = source.randint(0, len(numbers))
                parts.append((numbers[:cut] + [one + 1 for one in numbers[cut:]], threes + [more]))
            told.append(parts)
        else:
            place = source.randint(0, len(paper))
            told.append(paper[:place] + [more] + paper[place:])
    return told


class TestFewest(unittest.TestCase):
    def test_it_fits_and_its_paper_shows_it_and_none_shows_more(self):
        source = seeded(182)
        for row in some_rows():
            for way in WAYS:
                bound = pair(source.choice([0, Fraction(1, 2), 1, 3]))
                telling, paper = fewest(row, way, bound)
                many = len(telling)
                self.assertIs(fits(row, way, bound, telling), True)
                self.assertIs(shows(row, way, bound, many, paper), True)
                self.assertIs(shows(row, way, bound, many + 1, paper), False)
                for other in somewhat_changed(source, way, paper, row):
                    self.assertIs(shows(row, way, bound, many + 1, other), False)
                if way not in TIED:
                    greatest = greatest_paper(row, way, bound)
                    self.assertEqual(len(runs(row)) + len(greatest), many, (row, way, bound))
                    self.assertIs(shows(row, way, bound, many, greatest), True)


class TestLeast(unittest.TestCase):
    def test_its_miss_is_the_least_and_its_paper_shows_it(self):
        source = seeded(183)
        for row in some_rows():
            for way in WAYS:
                most = len(runs(row)) + source.randint(0, 4)
                worst, telling, paper = least(row, way, most)
                self.assertLessEqual(len(telling), most)
                self.assertEqual(miss(row, way, telling), worst)
                self.assertIs(shows(row, way, worst, len(telling), fewest(row, way, worst)[1]), True)
                if worst == (0, 1):
                    self.assertEqual(paper, [])
                    continue
                self.assertIs(shows(row, way, worst, most + 1, paper, True), True)
                below = pair(number(worst) - HAIR)
                self.assertIs(shows(row, way, below, most + 1, paper), True)
                self.assertIs(shows(row, way, worst, most + 1, paper), False)
                self.assertGreater(len(fewest(row, way, below)[0]), most)
                if way not in TIED:
                    self.assertGreater(len(runs(row)) + len(greatest_paper(row, way, worst, True)), most)


class TestAsItComes(unittest.TestCase):
    def come(self, source, row, way, bound):
        """The row comes in any order; now and then what lies ahead of all that is still to come is settled."""
        keeper = Keeper(way, bound)
        desk = Desk()
        self.assertEqual(desk.say("begin it %s %s" % (way, ratio_word(bound))), ["ok"])
        told = []
        lines = []
        left = list(row)
        source.shuffle(left)
        while left:
            moment, value = left.pop()
            keeper.gap(moment) if value is None else keeper.put(moment, *value)
            deed = "gap it %d" % moment if value is None else "put it %d %s" % (moment, ratio_word(value))
            self.assertEqual(desk.say(deed), ["ok"])
            settled = min([entry[0] - 1 for entry in left], default=row[-1][0])
            told += keeper.settle(settled)
            lines += desk.say("settle it %d" % settled)
            finished = fewest(row, way, bound)[0]
            self.assertEqual(keeper.sure(), told)
            self.assertEqual(told, finished[:len(told)])
            self.assertLessEqual(keeper.few()[0], len(finished))
            self.assertEqual(keeper.few(), few(row, way, bound, settled))
        told += keeper.close()
        lines += desk.say("close it")
        return keeper, desk, told, lines

    def test_put_together_the_pieces_are_the_telling(self):
        source = seeded(184)
        for row in some_rows():
            for way in WAYS:
                bound = pair(source.choice([0, Fraction(1, 2), 1, 3]))
                keeper, desk, told, lines = self.come(source, row, way, bound)
                telling, paper = fewest(row, way, bound)
                self.assertEqual((keeper.row(), keeper.told(), keeper.paper()), (row, telling, paper))
                self.assertEqual(told, telling)
                self.assertEqual(read_telling(lines), telling)
                self.look_at_lines(desk, row, way, bound)

    def look_at_lines(self, desk, row, way, bound):
        telling, paper = fewest(row, way, bound)
        self.assertEqual(read_row(desk.say("row it")), row)
        self.assertEqual(read_telling(desk.say("told it")), telling)
        self.assertEqual(read_telling(desk.say("sure it")), telling)
        self.assertEqual(read_paper(way, desk.say("paper it")), paper)
        self.assertEqual(desk.say("many it"), [str(len(telling))])
        lines = desk.say("least it 20")
        worst, best, shown = least(row, way, 20)
        self.assertEqual((read_ratio(lines[0], 2000), read_telling(lines[1:])), (worst, best))
        self.assertEqual(read_paper(way, show_paper(way, shown)), shown)
        self.assertEqual(read_row(show_row(row)), row)


if __name__ == "__main__":
    unittest.main()
