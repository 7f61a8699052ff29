import unittest
from fractions import Fraction

from helper import pair, seeded
from lath.errors import LathError, NoWord
from lath.words import ratio_word, read_ratio, read_whole, whole_word

WHOLES = {0: "0", 7: "7", -7: "-7", 10: "10", -10: "-10", 120: "120", 999: "999", -1234567890: "-1234567890"}
RATIOS = {(0, 1): "0", (3, 1): "3", (-3, 1): "-3", (1, 2): "1/2", (-3, 4): "-3/4", (10, 7): "10/7", (-1, 10): "-1/10"}

# None of these is a word of a whole number.
NO_WHOLES = [
    "", "-", "+", "+1", "-0", "00", "01", "-01", "007", "--1", "1-", "-1-", "1 ", " 1", "1\n", "\n1", "1\n2", "1 2",
    "- 1", "1.5", "1,000", "1_000", "0x1", "1e3", "a", "one", "gap", "1a", "(1)", "~", " ", "\n", "-\n1", "0-", "1/1",
]
NO_RATIOS = [word for word in NO_WHOLES if word != "1/1"] + [
    "1/1", "0/1", "5/1", "-5/1", "1/0", "0/0", "0/2", "0/5", "2/4", "-2/4", "6/3", "3/3", "10/15", "1/-2", "-1/-2",
    "1/", "/2", "/", "1//2", "1/2/3", "1/02", "01/2", "-0/2", "1/-0", "1 /2", "1/ 2", "1/2 ", " 1/2", "1/2\n", "\n1/2",
    "1/\n2", "+1/2", "1/+2", "1/2/", "1/a", "a/2", "-/2", "1/-", "1:2", "1\\2", "00/3",
]


class WordsCase(unittest.TestCase):
    def refused(self, read, *given):
        with self.assertRaises(LathError) as caught:
            read(*given)
        self.assertIs(caught.exception.__class__, NoWord, given)


class TestWholes(WordsCase):
    def test_written_and_read(self):
        for number, word in WHOLES.items():
            self.assertEqual(whole_word(number), word)
            self.assertEqual(read_whole(word), number)

    def test_many(self):
        source = seeded(141)
        for _ in range(400):
            number = source.randint(-10 ** source.randint(0, 300), 10 ** source.randint(0, 300))
            self.assertEqual(whole_word(number), str(number))
            self.assertEqual(read_whole(whole_word(number), 2000), number)

    def test_about_the_shares_in_which_it_is_written(self):
        for figures in (63, 64, 65, 128, 640, 1999):
            for number in (10 ** figures, 10 ** figures - 1, 10 ** figures + 1, -10 ** figures, 7 * 10 ** figures + 5):
                self.assertEqual(whole_word(number), str(number))

    def test_more_figures_than_python_writes_at_once(self):
        self.assertEqual(whole_word(10 ** 9000), "1" + "0" * 9000)
        self.assertEqual(whole_word(-10 ** 9000 - 7), "-1" + "0" * 8999 + "7")

    def test_no_words(self):
        for word in NO_WHOLES:
            self.refused(read_whole, word)
            self.refused(read_whole, word, 2000)

    def test_figures(self):
        self.assertEqual(read_whole("9" * 18), 10 ** 18 - 1)
        self.assertEqual(read_whole("-" + "9" * 18), 1 - 10 ** 18)
        self.refused(read_whole, "1" + "0" * 18)
        self.refused(read_whole, "-1" + "0" * 18)
        for figures in (1, 2, 17, 18, 19, 2000):
            self.assertEqual(read_whole("7" * figures, figures), int("7" * figures))
            self.assertEqual(read_whole("-" + "7" * figures, figures), -int("7" * figures))
            self.refused(read_whole, "7" * (figures + 1), figures)
            self.refused(read_whole, "-" + "7" * (figures + 1), figures)
        self.assertEqual(read_whole("0", 1), 0)
        self.assertEqual(read_whole("7", figures=1), 7)
        self.refused(read_whole, "9" * 19, 18)


class TestRatios(WordsCase):
    def test_written_and_read(self):
        for one, word in RATIOS.items():
            self.assertEqual(ratio_word(one), word)
            self.assertEqual(read_ratio(word), one)

    def test_whole_words_are_fractions(self):
        for number, word in WHOLES.items():
            self.assertEqual(read_ratio(word), (number, 1))

    def test_many(self):
        source = seeded(142)
        for _ in range(300):
            top = source.randint(-10 ** source.randint(0, 30), 10 ** source.randint(0, 30))
            one = pair(Fraction(top, source.randint(1, 10 ** source.randint(0, 30))))
            self.assertEqual(read_ratio(ratio_word(one), 40), one)
            self.assertEqual(ratio_word(one), str(Fraction(*one)))

    def test_no_words(self):
        for word in NO_RATIOS:
            self.refused(read_ratio, word)
            self.refused(read_ratio, word, 2000)

    def test_figures(self):
        nines = "9" * 18
        self.assertEqual(read_ratio("1" + "0" * 17 + "/" + nines), (10 ** 17, 10 ** 18 - 1))
        self.assertEqual(read_ratio("-" + nines + "/2"), (1 - 10 ** 18, 2))
        self.refused(read_ratio, "1/" + nines + "9")
        self.refused(read_ratio, nines + "9/2")
        self.refused(read_ratio, nines + "9")
        self.assertEqual(read_ratio("7", 1), (7, 1))
        self.assertEqual(read_ratio("-7/9", 1), (-7, 9))
        self.refused(read_ratio, "7/10", 1)
        self.refused(read_ratio, "10/7", 1)
        self.assertEqual(read_ratio("10/7", figures=2), (10, 7))

    def test_two_thousand_figures(self):
        top = 10 ** 1999 + 1
        bottom = 10 ** 1999
        word = str(top) + "/" + str(bottom)
        self.assertEqual(ratio_word((top, bottom)), word)
        self.assertEqual(read_ratio(word, 2000), (top, bottom))
        self.refused(read_ratio, word, 1999)
        self.refused(read_ratio, word)
        self.refused(read_ratio, "1/" + str(10 ** 2000), 2000)
        self.refused(read_ratio, str(2 * top) + "/" + str(2 * bottom), 2000)


if __name__ == "__main__":
    unittest.main()
