import unittest
from fractions import Fraction

from helper import pair, sample, samples_of, seeded, some_fraction, some_row
from lath.errors import LathError, NoLine
from lath.least import least
from lath.rows import runs
from lath.tell import WAYS, fewest
from lath.texts import read_paper, read_row, read_telling, show_paper, show_row, show_telling

TIED = ("spans", "chain")
EIGHTEEN = "9" * 18
NINETEEN = "1" + "0" * 18

# Lines that are wrong wherever they stand.
NO_LINES = ["", " ", "\n", "x", "ok", "labels", "bar", "gap", "1 2\n3 4"]
NO_ENTRIES = NO_LINES + [
    "1", "9000", "9000 ", " 9000 1", "9000 1 ", "9000  1", "9000 1 2", "9000 gap gap", "gap 9000", "9000 Gap", "9000 gap ",
    "9000 gaps", "9000 2/4", "9000 1/1", "9000 1/0", "9000 -0", "9000 +1", "9000 01", "9000 1\n", "\n9000 1", "9000\n1",
    "09000 1", "9000/1 1", "9000/7 1", "+9000 1", "9000 1.5", "9000\t1", "bar 1 2 3", "9000 None", NINETEEN + " 1",
    "9000 " + NINETEEN, "9000 1/" + NINETEEN, "9000 -" + NINETEEN,
]
NO_PIECES = NO_LINES + [
    "1 2 3", "1 2 3 4 5", "1 2 3 4 ", " 1 2 3 4", "1 2  3 4", "1 2 3 4\n", "1 2 3 gap", "1 2 3 2/4", "1 2 3 1/1", "1 2 3 -0",
    "1/0 2 3 4", "+1 2 3 4", "1 02 3 4", "1 2\n3 4", "1,2,3,4", "a b c d", "1 2 3 1" + "0" * 2000, "1 2 3 1/1" + "0" * 2000,
]
NO_THREES = NO_LINES + [
    "1 2", "1 2 3 4", "1 2 3 ", " 1 2 3", "1  2 3", "1 2 3\n", "1 2 1/2", "1 2 -0", "1 2 03", "1 2 +3", "a b c", "labels 0 1 2",
    "bar 1 2 3", "labels 1", "1 2 " + NINETEEN, "-" + NINETEEN + " 1 2", "1 2\n3",
]
NO_PARTS = [line for line in NO_LINES] + [
    "1 2 3", "bar 1 2", "bar 1 2 3 4", "bar 1 2 3 ", " bar 1 2 3", "bar  1 2 3", "bar 1 2 1/2", "bar 1 2 -0", "bars 1 2 3",
    "labels ", " labels 0", "labels 0 ", "labels  0", "labels 0  1", "labels 1/2", "labels 0 x", "labels\n0", "labels 0\n",
    "Labels 0", "label 0", "labels 00", "labels -0", "labels " + NINETEEN, "bar 1 2 " + NINETEEN, "labels labels 0",
    "labels bar 0", "bar",
]


class TextsCase(unittest.TestCase):
    def refused(self, at, read, *given):
        ahead = [list(one) if isinstance(one, list) else one for one in given]
        with self.assertRaises(LathError) as caught:
            read(*given)
        self.assertIs(caught.exception.__class__, NoLine, given)
        self.assertEqual(caught.exception.at, at, given)
        self.assertEqual(list(given), ahead)

    def wrong_at_each_place(self, read, good, wrong):
        """A wrong line in the place of each good one, ahead of all, behind all, and two wrong ones."""
        for place in range(len(good)):
            self.refused(place, read, good[:place] + [wrong] + good[place + 1:])
            self.refused(place, read, good[:place] + [wrong] + good[place:])
            self.refused(place, read, good[:place] + [wrong, wrong] + good[place:])
        self.refused(len(good), read, good + [wrong])
        self.refused(1, read, good[:1] + [wrong] + good[1:] + [wrong])
        self.refused(0, read, [wrong])


class TestRows(TextsCase):
    def test_by_hand(self):
        row = [sample(-3, 0), (0, None), sample(7, Fraction(-3, 4)), sample(8, 12)]
        lines = ["-3 0", "0 gap", "7 -3/4", "8 12"]
        self.assertEqual(show_row(row), lines)
        self.assertEqual(read_row(lines), row)
        self.assertEqual(show_row([]), [])
        self.assertEqual(read_row([]), [])

    def test_many(self):
        source = seeded(151)
        for _ in range(60):
            row = some_row(source, source.randint(0, 40), 10 ** 17, 10 ** 9)
            self.assertEqual(read_row(show_row(row)), row)

    def test_wrong_lines(self):
        good = ["1 2", "3 gap", "5 1/2", "7 -3"]
        self.assertEqual(len(read_row(good)), 4)
        for wrong in NO_ENTRIES:
            self.wrong_at_each_place(read_row, good, wrong)

    def test_moments_that_do_not_rise(self):
        for moment in ("3", "2", "-9"):
            for value in ("gap", "1"):
                self.refused(2, read_row, ["1 2", "3 gap", moment + " " + value, "x"])
                self.refused(2, read_row, ["1 2", "3 gap", moment + " " + value, "1 gap"])
        self.refused(1, read_row, ["1 2", "1 2"])
        self.refused(1, read_row, ["1 2", "0 2", "5 1/1"])
        # A wrong line that stands ahead is told, not the one whose moment does not rise.
        self.refused(1, read_row, ["1 2", "9 x", "1 2"])

    def test_the_line_at_the_place_40(self):
        lines = show_row(samples_of(range(40)))
        self.assertEqual(len(read_row(lines)), 40)
        for wrong in ("40 1", "40 gap", "39 1", "x", ""):
            self.refused(40, read_row, lines + [wrong])
            self.refused(40, read_row, lines + [wrong, "41 1", "x"])
        self.refused(39, read_row, lines[:39] + ["38 1", "40 1"])

    def test_figures(self):
        self.assertEqual(read_row(["-%s %s" % (EIGHTEEN, EIGHTEEN)]), [sample(1 - 10 ** 18, 10 ** 18 - 1)])
        self.assertEqual(read_row([EIGHTEEN + " -1/" + EIGHTEEN]), [(10 ** 18 - 1, (-1, 10 ** 18 - 1))])
        for line in (NINETEEN + " 1", "-" + NINETEEN + " gap", "1 " + NINETEEN, "1 1/" + NINETEEN):
            self.refused(0, read_row, [line])
            self.refused(1, read_row, ["0 gap", line])

    def test_numbers_that_are_not_read_are_shown(self):
        self.assertEqual(show_row([sample(10 ** 18, Fraction(1, 10 ** 30))]), [NINETEEN + " 1/1" + "0" * 30])


class TestTellings(TextsCase):
    def test_by_hand(self):
        telling = [((0, 1), (1, 2), (3, 1), (-2, 7)), ((3, 1), (-2, 7), (9, 2), (0, 1))]
        lines = ["0 1/2 3 -2/7", "3 -2/7 9/2 0"]
        self.assertEqual(show_telling(telling), lines)
        self.assertEqual(read_telling(lines), telling)
        self.assertEqual(show_telling([]), [])
        self.assertEqual(read_telling([]), [])

    def test_told_ones(self):
        source = seeded(152)
        for _ in range(40):
            row = some_row(source, source.randint(0, 14))
            for way in WAYS:
                for telling in (fewest(row, way, (1, 3))[0], least(row, way, len(runs(row)) + 1)[1]):
                    self.assertEqual(read_telling(show_telling(telling)), telling)

    def test_any_four_fractions(self):
        source = seeded(153)
        telling = [tuple(pair(some_fraction(source)) for _ in range(4)) for _ in range(100)]
        self.assertEqual(read_telling(show_telling(telling)), telling)
        self.assertEqual(read_telling(["3 1 2 1", "3 1 3 2"])[0], ((3, 1), (1, 1), (2, 1), (1, 1)))

    def test_wrong_lines(self):
        good = ["0 1/2 3 -2/7", "3 -2/7 9/2 0", "1 1 1 1"]
        for wrong in NO_PIECES:
            self.wrong_at_each_place(read_telling, good, wrong)

    def test_figures(self):
        for figures in (19, 2000):
            nines = "9" * figures
            line = " ".join(["-" + nines, "1/" + nines, nines, nines + "/2"])
            many = 10 ** figures - 1
            self.assertEqual(read_telling([line]), [((-many, 1), (1, many), (many, 1), (many, 2))])
        nines = "9" * 2001
        for place in range(4):
            for word in (nines, "-" + nines, "1/" + nines, nines + "/2"):
                words = ["1"] * 4
                words[place] = word
                self.refused(0, read_telling, [" ".join(words)])
                self.refused(1, read_telling, ["1 1 1 1", " ".join(words)])


class TestPapers(TextsCase):
    def test_by_hand(self):
        for way in ("apart", "joined"):
            paper = [(-3, 5, 9), (0, 0, 0), (9, 5, -3)]
            lines = ["-3 5 9", "0 0 0", "9 5 -3"]
            self.assertEqual(show_paper(way, paper), lines)
            self.assertEqual(read_paper(way, lines), paper)
        for way in TIED:
            paper = [([0, 1, 1, 2], [(3, 5, 9)]), ([-7], []), ([4, 0], [(1, 1, 1), (9, 0, -9)])]
            lines = ["labels 0 1 1 2", "bar 3 5 9", "labels -7", "labels 4 0", "bar 1 1 1", "bar 9 0 -9"]
            self.assertEqual(show_paper(way, paper), lines)
            self.assertEqual(read_paper(way, lines), paper)
        for way in WAYS:
            self.assertEqual(show_paper(way, []), [])
            self.assertEqual(read_paper(way, []), [])

    def test_told_ones(self):
        source = seeded(154)
        for _ in range(40):
            row = some_row(source, source.randint(0, 14))
            for way in WAYS:
                for paper in (fewest(row, way, (1, 3))[1], least(row, way, len(runs(row)) + 1)[2]):
                    self.assertEqual(read_paper(way, show_paper(way, paper)), paper)

    def test_wrong_lines_of_threes(self):
        good = ["-3 5 9", "0 0 0", "9 5 -3"]
        for way in ("apart", "joined"):
            for wrong in NO_THREES:
                self.wrong_at_each_place(lambda lines: read_paper(way, lines), good, wrong)

    def test_wrong_lines_of_parts(self):
        good = ["labels 0 1 1 2", "bar 3 5 9", "labels -7", "bar 1 2 3"]
        for way in TIED:
            for wrong in NO_PARTS:
                for place in range(1, 5):
                    self.refused(place, read_paper, way, good[:place] + [wrong] + good[place:])
                    self.refused(place, read_paper, way, good[:place] + [wrong] + good[place + 1:] + [wrong])
                self.refused(0, read_paper, way, [wrong] + good)

    def test_a_first_line_that_is_no_labels_line(self):
        for way in TIED:
            self.refused(0, read_paper, way, ["bar 1 2 3"])
            self.refused(0, read_paper, way, ["bar 1 2 3", "labels 0 1"])
            self.refused(0, read_paper, way, ["bar 1 2 3", "x"])
            self.refused(0, read_paper, way, ["labels", "bar 1 2 3"])
            self.refused(1, read_paper, way, ["labels 0", "labels", "bar 1 2 3"])
            self.assertEqual(read_paper(way, ["labels 0", "bar 1 2 3"]), [([0], [(1, 2, 3)])])

    def test_figures(self):
        many = 10 ** 18 - 1
        for way in ("apart", "joined"):
            self.assertEqual(read_paper(way, ["-%s 0 %s" % (EIGHTEEN, EIGHTEEN)]), [(-many, 0, many)])
            for line in (NINETEEN + " 0 1", "0 -" + NINETEEN + " 1", "0 1 " + NINETEEN):
                self.refused(0, read_paper, way, [line])
        for way in TIED:
            lines = ["labels %s -%s" % (EIGHTEEN, EIGHTEEN), "bar 0 1 " + EIGHTEEN]
            self.assertEqual(read_paper(way, lines), [([many, -many], [(0, 1, many)])])
            self.refused(0, read_paper, way, ["labels 0 " + NINETEEN])
            self.refused(1, read_paper, way, ["labels 0", "bar 0 1 -" + NINETEEN])

    def test_any_lengths(self):
        for way in ("apart", "joined"):
            paper = [(place, -place, 0) for place in range(500)]
            self.assertEqual(read_paper(way, show_paper(way, paper)), paper)
        for way in TIED:
            paper = [(list(range(-place, 60)), [(place, 0, 0)] * place) for place in range(50)]
            self.assertEqual(read_paper(way, show_paper(way, paper)), paper)


class TestWhoseLists(TextsCase):
    def test_what_is_read_is_the_askers_own(self):
        lines = ["labels 0 1", "bar 1 2 3"]
        for way in TIED:
            told = read_paper(way, lines)
            told[0][0].append(9)
            told[0][1].clear()
            told.append("more")
            self.assertEqual(read_paper(way, lines), [([0, 1], [(1, 2, 3)])])
        paper = [([0, 1], [(1, 2, 3)])]
        shown = show_paper("spans", paper)
        paper[0][0].append(7)
        paper[0][1].clear()
        self.assertEqual(shown, ["labels 0 1", "bar 1 2 3"])
        shown.clear()
        self.assertEqual(show_paper("spans", paper), ["labels 0 1 7"])
        row = samples_of([1, 2])
        kept = show_row(row)
        row.clear()
        self.assertEqual(kept, ["0 1", "1 2"])
        read_row(kept).clear()
        self.assertEqual(len(read_row(kept)), 2)


if __name__ == "__main__":
    unittest.main()
