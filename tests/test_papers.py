import unittest
from fractions import Fraction
from itertools import combinations, product

from helper import FEWEST, number, pair, sample, samples_of, seeded, some_fraction, some_row, stand_of
from lath.chords import labels
from lath.papers import shows
from lath.rows import runs
from lath.tell import WAYS, fewest

HAIR = Fraction(1, 10 ** 200)
SOME_BOUNDS = [Fraction(0), Fraction(1, 3), Fraction(1), Fraction(3, 2), Fraction(3)]
TIED = ("spans", "chain")


def noughts(row, way):
    return [([0] * (len(run) + (way == "spans")), []) for run in runs(row)] if way in TIED else []


def good(run, way, bound, three, at):
    by_moment = dict(run)
    if not (three[0] < three[1] < three[2] and all(moment in by_moment for moment in three)):
        return None
    stood = stand_of(*[(moment, by_moment[moment]) for moment in three])
    worth = abs(stood) if way in TIED else abs(stood) / 2
    if stood == 0 or worth < number(bound) or (worth == number(bound) and not at):
        return None
    return "cap" if stood > 0 else "cup"


def awaited_by_threes(row, way, bound, paper, at):
    ended = {}
    for three in paper:
        kinds = [kind for kind in [good(run, way, bound, three, at) for run in runs(row)] if kind]
        if not kinds:
            return None
        kind = "any" if way == "apart" else kinds[0]
        if kind in ended and three[0] < ended[kind]:
            return None
        ended[kind] = three[2]
    return len(runs(row)) + len(paper)


def awaited_by_numbers(row, way, bound, paper, at):
    if len(paper) != len(runs(row)):
        return None
    total = 0
    for run, (numbers, threes) in zip(runs(row), paper):
        if len(numbers) != len(run) + (way == "spans") or numbers[0] > 0:
            return None
        for i, j in combinations(range(len(numbers)), 2):
            outer = (run[i][0], run[j - (way == "spans")][0])
            bars = [three for three in threes if (three[0], three[2]) == outer and good(run, way, bound, three, at)]
            if numbers[j] - numbers[i] > 1 and not bars:
                return None
        total += max(1, numbers[-1])
    return total


def awaited(row, way, bound, paper, at=False):
    """How many pieces the paper shows by the words of the point, None where it is no such paper."""
    by = awaited_by_numbers if way in TIED else awaited_by_threes
    return by(row, way, bound, paper, at)


ROW = samples_of([0, 4, 0, -4, 0]) + [(5, None), sample(6, 3), (7, None)] + samples_of([1, 9, 1], 8)


class ShowsCase(unittest.TestCase):
    def shows_just(self, row, way, bound, many, paper, at=False):
        """True up to a number, False above it; None: never True."""
        if many is None:
            for asked in (-10 ** 30, -1, 0, 1, 5):
                self.assertIs(shows(row, way, bound, asked, paper, at), False, (row, way, bound, paper, at))
        else:
            for asked in (-10 ** 30, -1, 0, many - 1, many):
                if asked <= many:
                    self.assertIs(shows(row, way, bound, asked, paper, at), True, (row, way, bound, paper, at))
            for asked in (many + 1, many + 2, 10 ** 30):
                self.assertIs(shows(row, way, bound, asked, paper, at), False, (row, way, bound, paper, at))


class TestToldPapers(ShowsCase):
    def test_what_fewest_tells(self):
        source = seeded(101)
        for _ in range(120):
            row = some_row(source, source.randint(0, 14), 6, source.choice([1, 4]))
            bound = pair(source.choice(SOME_BOUNDS + [abs(some_fraction(source))]))
            for way in WAYS:
                telling, paper = fewest(row, way, bound)
                self.shows_just(row, way, bound, len(telling), paper)
                self.shows_just(row, way, bound, len(telling), paper, True)

    def test_forty_entries(self):
        source = seeded(102)
        for bound in ((0, 1), (3, 1)):
            for way in WAYS:
                row = some_row(source, 40)
                telling, paper = fewest(row, way, bound)
                self.shows_just(row, way, bound, len(telling), paper)

    def test_papers_without_threes_show_the_runs(self):
        source = seeded(103)
        for row in [ROW, [], [(3, None)], [(3, None), (4, None)]] + [some_row(source, 9) for _ in range(20)]:
            for way in WAYS:
                for bound in ((0, 1), (9, 2)):
                    for at in (True, False):
                        self.shows_just(row, way, bound, len(runs(row)), noughts(row, way), at)

    def test_large_numbers(self):
        huge = 10 ** 1999
        row = [sample(-huge, huge), sample(0, Fraction(1, huge)), sample(huge, huge), sample(huge + 1, 0)]
        for way in WAYS:
            telling, paper = fewest(row, way, (1, huge))
            self.shows_just(row, way, (1, huge), len(telling), paper)


class TestThrees(ShowsCase):
    def test_at_the_bound_and_a_hair_off(self):
        row = samples_of([0, 4, 0])
        for way in WAYS:
            worth = Fraction(4) if way in TIED else Fraction(2)
            paper = {"spans": [([0, 1, 1, 2], [(0, 1, 2)])], "chain": [([0, 1, 2], [(0, 1, 2)])]}.get(way, [(0, 1, 2)])
            for turned in (row, samples_of([0, -4, 0])):
                self.shows_just(turned, way, pair(worth - HAIR), 2, paper)
                self.shows_just(turned, way, pair(worth), None, paper)
                self.shows_just(turned, way, pair(worth), 2, paper, True)
                self.shows_just(turned, way, pair(worth + HAIR), None, paper, True)
                self.assertIs(shows(turned, way, pair(worth), 2, paper, at=True), True)
                self.assertIs(shows(turned, way, pair(worth), 2, paper, at=False), False)

    def test_flat_threes(self):
        row = samples_of([0, 1, 2, 7])
        for at in (True, False):
            for bound in ((0, 1), (1, 9)):
                for way in ("apart", "joined"):
                    self.shows_just(row, way, bound, None, [(0, 1, 2)], at)
                self.shows_just(row, "spans", bound, None, [([0, 0, 0, 2, 2], [(0, 1, 2)])], at)
                self.shows_just(row, "chain", bound, None, [([0, 0, 2, 2], [(0, 1, 2)])], at)
        self.shows_just(row, "apart", (0, 1), 2, [(1, 2, 3)], True)

    def test_threes_that_are_none_of_one_run(self):
        wrong = [
            (2, 1, 0), (0, 0, 2), (0, 2, 2), (1, 1, 1), (0, 2, 1), (-1, 0, 1), (3, 4, 5), (4, 5, 6), (0, 1, 6),
            (3, 4, 8), (4, 8, 9), (6, 8, 9), (5, 6, 7), (8, 9, 11), (0, 1, 10 ** 50), (-10 ** 50, 0, 1),
        ]
        for three in wrong:
            for at in (True, False):
                for way in ("apart", "joined"):
                    self.shows_just(ROW, way, (0, 1), None, [three], at)
                    self.shows_just(ROW, way, (0, 1), None, [(0, 1, 2), three], at)
                    self.shows_just(ROW, way, (0, 1), None, [three, (8, 9, 10)], at)

    def test_apart_one_behind_the_other(self):
        self.shows_just(ROW, "apart", (0, 1), 6, [(0, 1, 2), (2, 3, 4), (8, 9, 10)])
        self.shows_just(ROW, "apart", (0, 1), 5, [(0, 1, 2), (8, 9, 10)])
        self.shows_just(ROW, "apart", (0, 1), 4, [(1, 3, 4)])
        for paper in (
            [(0, 1, 2), (1, 2, 4)], [(0, 1, 3), (2, 3, 4)], [(2, 3, 4), (0, 1, 2)], [(0, 1, 2), (0, 1, 2)],
            [(8, 9, 10), (0, 1, 2)], [(0, 1, 2), (8, 9, 10), (2, 3, 4)],
        ):
            self.shows_just(ROW, "apart", (0, 1), None, paper)

    def test_joined_caps_and_cups(self):
        # Caps: (0, 1, 2), (0, 1, 3), (0, 1, 4), (8, 9, 10); cups: (2, 3, 4), (1, 3, 4), (0, 3, 4).
        self.shows_just(ROW, "joined", (0, 1), 6, [(0, 1, 2), (2, 3, 4), (8, 9, 10)])
        self.shows_just(ROW, "joined", (0, 1), 6, [(8, 9, 10), (2, 3, 4), (0, 1, 2)][1:] + [(8, 9, 10)])
        self.shows_just(ROW, "joined", (0, 1), 5, [(0, 1, 3), (1, 3, 4)])
        self.shows_just(ROW, "joined", (0, 1), 5, [(0, 3, 4), (0, 1, 4)])
        self.shows_just(ROW, "joined", (0, 1), 5, [(8, 9, 10), (0, 3, 4)])
        for paper in (
            [(0, 1, 2), (0, 1, 3)], [(2, 3, 4), (1, 3, 4)], [(0, 1, 2), (2, 3, 4), (0, 1, 4)], [(0, 3, 4), (0, 3, 4)],
            [(8, 9, 10), (0, 1, 2)], [(8, 9, 10), (0, 3, 4), (0, 1, 2)],
        ):
            self.shows_just(ROW, "joined", (0, 1), None, paper)
        zigzag = samples_of([0, 1, 0, 1, 0])
        self.shows_just(zigzag, "joined", (0, 1), 4, [(0, 1, 2), (1, 2, 3), (2, 3, 4)])
        self.shows_just(zigzag, "apart", (0, 1), None, [(0, 1, 2), (1, 2, 3), (2, 3, 4)])


class TestNumbers(ShowsCase):
    def test_too_few_and_too_many_runs_or_numbers(self):
        for way in TIED:
            parts = fewest(ROW, way, (0, 1))[1]
            self.shows_just(ROW, way, (0, 1), len(fewest(ROW, way, (0, 1))[0]), parts)
            for wrong in (parts[:2], parts + parts[-1:], [], parts[1:] + parts[:1]):
                self.shows_just(ROW, way, (0, 1), None, wrong)
            for place, (numbers, threes) in enumerate(parts):
                for other in (numbers[:-1], numbers + numbers[-1:], [], numbers * 20):
                    self.shows_just(ROW, way, (0, 1), None, parts[:place] + [(other, threes)] + parts[place + 1:])
            self.shows_just([], way, (0, 1), None, [([0], [])])
            self.shows_just([], way, (0, 1), None, [([], [])])

    def test_the_first_number(self):
        run = samples_of([0, 4, 0])
        self.shows_just(run, "chain", (0, 1), None, [([1, 1, 2], [(0, 1, 2)])])
        self.shows_just(run, "chain", (0, 1), None, [([10 ** 30] * 3, [(0, 1, 2)])])
        self.shows_just(run, "chain", (0, 1), 1, [([-1, 0, 1], [(0, 1, 2)])])
        self.shows_just(run, "chain", (0, 1), None, [([-1, 1, 1], [(0, 1, 2)])])
        self.shows_just(run, "spans", (0, 1), None, [([1, 1, 1, 2], [(0, 1, 2)])])
        self.shows_just(run, "spans", (0, 1), 1, [([-7, -6, -6, -5], [(0, 1, 2)])])

    def test_numbers_that_fall_and_a_last_one_below_one(self):
        run = samples_of([0, 4, 0, 4])
        for numbers in ([0, -1, -2, -3], [0, 1, 0, -10 ** 30], [-5, -5, -4, -4], [0, 1, 1, 0], [0, 0, 0, 1]):
            self.shows_just(run, "chain", (0, 1), 1, [(numbers, [])])
            self.shows_just(run, "spans", (0, 1), 1, [([0] + numbers, [])])
        self.shows_just(run, "chain", (0, 1), None, [([0, 0, -9, 1], [])])
        self.shows_just(run, "chain", (0, 1), None, [([0, 0, -9, 1], [(0, 1, 3)])])

    def test_a_pair_with_no_three_or_with_that_of_another(self):
        run = samples_of([0, 4, 0, 4])
        bars = [(0, 1, 2), (0, 1, 3), (1, 2, 3)]
        self.shows_just(run, "chain", (0, 1), 3, [([0, 1, 2, 3], bars)])
        for place in range(3):
            self.shows_just(run, "chain", (0, 1), None, [([0, 1, 2, 3], bars[:place] + bars[place + 1:])])
        self.shows_just(run, "chain", (0, 1), 3, [([0, 1, 2, 3], [(0, 1, 2), (0, 2, 3), (1, 2, 3)][::-1])])
        self.shows_just(run, "spans", (0, 1), 2, [([0, 1, 1, 2, 2], [(0, 1, 2), (0, 2, 3)])])
        self.shows_just(run, "spans", (0, 1), None, [([0, 1, 1, 2, 2], [(0, 1, 2), (1, 2, 3)])])
        self.shows_just(run, "spans", (0, 1), None, [([0, 1, 1, 3, 2], [(0, 1, 2), (0, 2, 3), (1, 2, 3)])])
        self.shows_just(run, "spans", (0, 1), None, [([0, 2, 2, 2, 2], bars)])
        self.shows_just(run, "chain", (0, 1), None, [([0, 2, 2, 2], bars + [(0, 0, 1), (0, 1, 1)])])

    def test_threes_that_are_not_looked_at(self):
        run = samples_of([0, 4, 0, 4])
        bad = [(5, 4, 3), (0, 0, 0), (-1, 0, 1), (10 ** 40, -10 ** 40, 0), (0, 2, 2), (0, 1, 99), (0, 1, 2)]
        for way in TIED:
            numbers = labels(run, (0, 1), way == "chain")
            part = (numbers, bad + fewest(run, way, (0, 1))[1][0][1] + bad)
            self.shows_just(run, way, (0, 1), numbers[-1], [part])
            self.shows_just(run, way, (0, 1), 1, [([0] * len(numbers), bad)])

    def test_the_middle_one_need_not_be_the_farthest(self):
        run = samples_of([0, 1, 9, 0])
        self.shows_just(run, "chain", (1, 3), 2, [([0, 1, 1, 2], [(0, 1, 3)])])
        self.shows_just(run, "chain", (1, 3), None, [([0, 1, 1, 2], [(0, 1, 2)])])
        self.shows_just(run, "chain", (1, 1), None, [([0, 1, 1, 2], [(0, 1, 3)])])
        self.shows_just(run, "chain", (1, 1), 2, [([0, 1, 1, 2], [(0, 1, 3), (0, 2, 3)])])

    def test_a_three_of_another_run(self):
        row = samples_of([0, 4, 0]) + [(3, None)] + samples_of([0, 4, 0], 4)
        both = [(0, 1, 2), (4, 5, 6)]
        self.shows_just(row, "chain", (0, 1), 4, [([0, 1, 2], both), ([0, 1, 2], both)])
        self.shows_just(row, "chain", (0, 1), None, [([0, 1, 2], both[1:]), ([0, 1, 2], both[1:])])
        self.shows_just(row, "chain", (0, 1), None, [([0, 1, 2], both[:1]), ([0, 1, 2], both[:1])])


class TestAnyPaper(ShowsCase):
    def test_against_the_words_of_the_point(self):
        source = seeded(104)
        seen = []
        for _ in range(1500):
            row = some_row(source, source.randint(0, 6), 3, 1, 2)
            moments = [entry[0] for entry in row] + [0]
            bound = pair(source.choice([0, Fraction(1, 2), 1]))
            for way in WAYS:
                paper = self.some_paper(source, row, way, bound, moments)
                for at in (True, False):
                    many = awaited(row, way, bound, paper, at)
                    self.shows_just(row, way, bound, many, paper, at)
                    seen.append((way, many is not None and many > len(runs(row))))
        for way in WAYS:
            self.assertTrue({(way, True), (way, False)} <= set(seen))

    def some_paper(self, source, row, way, bound, moments):
        def some_three():
            three = [source.choice(moments) for _ in range(3)]
            return tuple(sorted(three) if source.random() < 0.9 else three)

        if way not in TIED:
            return sorted([some_three() for _ in range(source.randint(0, 3))], key=lambda three: three[2])
        paper = []
        for numbers, threes in fewest(row, way, bound)[1]:
            numbers = [one + source.choice([0, 0, 0, 0, 1, -1]) for one in numbers]
            kept = [three for three in threes if source.random() < 0.9]
            paper.append((numbers, kept + [some_three() for _ in range(source.randint(0, 9))]))
        return paper

    def test_lists_of_any_lengths(self):
        for many in (100, 3000):
            for way in ("apart", "joined"):
                self.shows_just(ROW, way, (0, 1), None, [(0, 1, 2)] * many)
            for way in TIED:
                self.shows_just(ROW, way, (0, 1), None, noughts(ROW, way) * many)
                self.shows_just(ROW, way, (0, 1), None, [(one * many, two) for one, two in noughts(ROW, way)])
                paper = [(one, two * many) for one, two in fewest(ROW, way, (0, 1))[1]]
                self.shows_just(ROW, way, (0, 1), len(fewest(ROW, way, (0, 1))[0]), paper)

    def test_no_paper_shows_more_than_the_fewest(self):
        rows = [samples_of(values) for values in ([0, 2, 0], [0, 2, 0, 2], [0, 1, -1, 0], [0, 2, 2, 0], [0, 3, 1, 4])]
        rows.append([sample(0, 0), (1, None), sample(2, 0), sample(3, 2), sample(5, 0)])
        for row in rows:
            moments = [entry[0] for entry in row]
            for bound in ((0, 1), (1, 2), (1, 1)):
                for way in ("apart", "joined"):
                    most = sum(FEWEST[way](run, bound) for run in runs(row))
                    threes = list(combinations(moments, 3)) + [(0, 0, 3), (3, 2, 0)]
                    for many in range(3):
                        for paper in product(threes, repeat=many):
                            self.assertIs(shows(row, way, bound, most + 1, list(paper)), False)

    def test_no_numbers_show_more_than_the_fewest(self):
        for values in ([0, 2, 0], [0, 2, 0, 2], [0, 1, -1, 0], [0, 2, 2, 0]):
            row = samples_of(values)
            threes = list(combinations(range(len(row)), 3))
            for bound in ((0, 1), (1, 2), (1, 1)):
                for way in TIED:
                    most = FEWEST[way](row, bound)
                    shown = []
                    for numbers in product(range(-1, 5), repeat=len(row) + (way == "spans")):
                        paper = [(list(numbers), threes)]
                        self.assertIs(shows(row, way, bound, most + 1, paper), False)
                        shown.append(shows(row, way, bound, most, paper))
                    self.assertIn(True, shown)

    def test_whose_lists(self):
        for way in WAYS:
            row = list(ROW)
            paper = fewest(row, way, (0, 1))[1]
            ahead = fewest(row, way, (0, 1))[1]
            for _ in range(2):
                self.assertIs(shows(row, way, (0, 1), 1, paper), True)
                self.assertEqual((row, paper), (ROW, ahead))
            paper.append(paper[0])
            self.assertIs(shows(row, way, (0, 1), 1, paper), False)


if __name__ == "__main__":
    unittest.main()
