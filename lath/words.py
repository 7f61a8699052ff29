"""Words: how whole numbers and fractions are written, and read again just as they are written."""

from lath.errors import NoWord
from lath.ratios import is_fraction

FIGURES = "0123456789"


def figures_of(number):
    # Python writes no number of more than some thousand figures at once; so it is written in shares of 64.
    share = 10 ** 64
    shares = []
    left = number
    while left >= share:
        shares.append(str(left % share).zfill(64))
        left = left // share
    shares.append(str(left))
    shares.reverse()
    return "".join(shares)


def whole_word(number):
    return "-" + figures_of(-number) if number < 0 else figures_of(number)


def ratio_word(one):
    if one[1] == 1:
        return whole_word(one[0])
    return whole_word(one[0]) + "/" + whole_word(one[1])


def is_whole(word, figures):
    written = word[1:] if word.startswith("-") else word
    if len(written) == 0 or len(written) > figures:
        return False
    if not all([sign in FIGURES for sign in written]):
        return False
    return word == "0" or written[0] != "0"


def read_whole(word, figures=18):
    if not is_whole(word, figures):
        raise NoWord("no word of a whole number")
    return int(word)


def read_ratio(word, figures=18):
    parts = word.partition("/")
    top = read_whole(parts[0], figures)
    if parts[1] == "":
        return (top, 1)
    bottom = read_whole(parts[2], figures)
    if bottom < 2 or not is_fraction((top, bottom)):
        raise NoWord("no word of a fraction")
    return (top, bottom)
