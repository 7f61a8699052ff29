"""The Desk: keepers by names, asked in lines and answering in lines."""

from lath.errors import Closed, Full, Missing, NoBound, NoWay, NoWord, Settled, Taken, TooFew
from lath.keeper import Keeper
from lath.rules import parting
from lath.texts import show_paper, show_row, show_telling
from lath.words import ratio_word, read_ratio, read_whole, whole_word

ROOM = 12
LETTERS = "abcdefghijklmnopqrstuvwxyz"

# The kinds of the words behind the first one.
LINES = {
    "begin": ("name", "way", "ratio"),
    "put": ("name", "whole", "ratio"),
    "gap": ("name", "whole"),
    "mend": ("name", "whole", "ratio"),
    "strike": ("name", "whole"),
    "drop": ("name",),
    "settle": ("name", "whole"),
    "close": ("name",),
    "row": ("name",),
    "told": ("name",),
    "sure": ("name",),
    "paper": ("name",),
    "many": ("name",),
    "few": ("name",),
    "least": ("name", "whole"),
    "parting": ("name", "name"),
    "names": (),
}


def read_letters(word, most):
    if len(word) == 0 or len(word) > most or not all([sign in LETTERS for sign in word]):
        raise NoWord("no word of small letters")
    return word


def read_word(kind, word):
    if kind == "whole":
        return read_whole(word)
    if kind == "ratio":
        return read_ratio(word)
    return read_letters(word, 8 if kind == "name" else len(word))


def read_line(line):
    # What the words behind the first one write, or None where it is none of the lines.
    words = line.split(" ")
    if words[0] not in LINES:
        return None
    kinds = LINES[words[0]]
    if len(words) != len(kinds) + 1:
        return None
    try:
        return [words[0]] + [read_word(kind, word) for kind, word in zip(kinds, words[1:])]
    except NoWord:
        return None


def show_few(told):
    lines = [whole_word(told[0])]
    if told[1] is not None:
        lines.extend(show_row([told[1]]))
    return lines


def show_least(told):
    return [ratio_word(told[0])] + show_telling(told[1])


def show_parting(keeper, other):
    row = parting(("fewest", keeper.way, keeper.bound), ("fewest", other.way, other.bound))
    return ["alike"] if row is None else show_row(row)


def do_deed(keeper, given):
    deed = given[0]
    if deed == "put":
        keeper.put(given[2], given[3][0], given[3][1])
    elif deed == "gap":
        keeper.gap(given[2])
    elif deed == "mend":
        keeper.mend(given[2], given[3][0], given[3][1])
    else:
        keeper.strike(given[2])
    return ["ok"]


def answer_question(keeper, given):
    asked = given[0]
    if asked == "settle":
        return show_telling(keeper.settle(given[2]))
    if asked == "close":
        return show_telling(keeper.close())
    if asked == "row":
        return show_row(keeper.row())
    if asked == "told":
        return show_telling(keeper.told())
    if asked == "sure":
        return show_telling(keeper.sure())
    if asked == "paper":
        return show_paper(keeper.way, keeper.paper())
    if asked == "many":
        return [whole_word(keeper.many())]
    if asked == "few":
        return show_few(keeper.few())
    return show_least(keeper.least(given[2]))


class Desk:
    def __init__(self):
        self.keepers = {}

    def say(self, line):
        given = read_line(line)
        if given is None:
            return ["no line"]
        try:
            return self.answered(given)
        except NoWay:
            return ["no way"]
        except NoBound:
            return ["no bound"]
        except TooFew:
            return ["no few"]
        except Closed:
            return ["no closed"]
        except Settled:
            return ["no settled"]
        except Taken:
            return ["no taken"]
        except Missing:
            return ["no missing"]
        except Full:
            return ["no full"]

    def answered(self, given):
        if given[0] == "names":
            return list(self.keepers)
        if given[0] == "begin":
            return self.begin(given[1], given[2], given[3])
        if given[1] not in self.keepers:
            return ["no name"]
        keeper = self.keepers[given[1]]
        if given[0] == "drop":
            self.keepers.pop(given[1])
            return ["ok"]
        if given[0] == "parting":
            return self.parted(keeper, given[2])
        if given[0] in ("put", "gap", "mend", "strike"):
            return do_deed(keeper, given)
        return answer_question(keeper, given)

    def begin(self, name, way, bound):
        if name in self.keepers:
            return ["no name"]
        if len(self.keepers) >= ROOM:
            return ["no room"]
        self.keepers[name] = Keeper(way, bound)
        return ["ok"]

    def parted(self, keeper, name):
        if name not in self.keepers:
            return ["no name"]
        return show_parting(keeper, self.keepers[name])
