import unittest

from helper import samples_of, seeded, some_row
from lath.desk import Desk
from lath.keeper import Keeper
from lath.least import least
from lath.rules import parting
from lath.tell import WAYS, fewest
from lath.texts import read_paper, read_row, read_telling, show_row, show_telling
from lath.words import ratio_word

EIGHTEEN = "9" * 18
NINETEEN = "1" + "0" * 18
QUESTIONS = ("row", "told", "sure", "paper", "many", "few", "least")


def begun(*lines):
    desk = Desk()
    for line in lines:
        if desk.say(line) != ["ok"]:
            raise AssertionError(line)
    return desk


def put_row(desk, name, row):
    for line in show_row(row):
        moment, value = line.split(" ")
        told = desk.say("gap %s %s" % (name, moment) if value == "gap" else "put %s %s %s" % (name, moment, value))
        if told != ["ok"]:
            raise AssertionError(line)


def seen(desk):
    """All that the desk tells of its keepers, but by deeds."""
    told = [desk.say("names")]
    for name in desk.say("names"):
        told += [desk.say("%s %s" % (asked, name)) for asked in QUESTIONS[:-1]]
        told.append(desk.say("least %s 40" % name))
    return told


class DeskCase(unittest.TestCase):
    def refused(self, desk, word, *lines):
        ahead = seen(desk)
        for line in lines:
            self.assertEqual(desk.say(line), ["no " + word], line)
        self.assertEqual(seen(desk), ahead)


class TestLines(DeskCase):
    def test_a_keeper_from_begin_to_drop(self):
        desk = Desk()
        self.assertEqual(desk.say("names"), [])
        self.assertEqual(desk.say("begin pole apart 1/2"), ["ok"])
        self.assertEqual(desk.say("names"), ["pole"])
        for asked in ("row", "told", "sure", "paper"):
            self.assertEqual(desk.say(asked + " pole"), [])
        self.assertEqual(desk.say("many pole"), ["0"])
        self.assertEqual(desk.say("few pole"), ["0"])
        self.assertEqual(desk.say("least pole 0"), ["0"])
        self.assertEqual(desk.say("put pole 3 -7/2"), ["ok"])
        self.assertEqual(desk.say("gap pole 5"), ["ok"])
        self.assertEqual(desk.say("put pole -1 4"), ["ok"])
        self.assertEqual(desk.say("row pole"), ["-1 4", "3 -7/2", "5 gap"])
        self.assertEqual(desk.say("mend pole 3 0"), ["ok"])
        self.assertEqual(desk.say("strike pole 5"), ["ok"])
        self.assertEqual(desk.say("row pole"), ["-1 4", "3 0"])
        self.assertEqual(desk.say("told pole"), ["-1 4 3 0"])
        self.assertEqual(desk.say("drop pole"), ["ok"])
        self.assertEqual(desk.say("names"), [])
        self.assertEqual(desk.say("row pole"), ["no name"])

    def test_apart_by_hand(self):
        desk = begun("begin a apart 0", "put a 0 0", "put a 1 1", "put a 2 5", "put a 3 9")
        self.assertEqual(desk.say("settle a 1"), [])
        self.assertEqual(desk.say("settle a 2"), ["0 0 1 1"])
        self.assertEqual(desk.say("settle a 2"), [])
        self.assertEqual(desk.say("sure a"), ["0 0 1 1"])
        self.assertEqual(desk.say("told a"), ["0 0 1 1", "2 5 3 9"])
        self.assertEqual(desk.say("paper a"), ["0 1 2"])
        self.assertEqual(desk.say("many a"), ["2"])
        self.assertEqual(desk.say("few a"), ["2"])
        self.assertEqual(desk.say("close a"), ["2 5 3 9"])
        self.assertEqual(desk.say("sure a"), desk.say("told a"))

    def test_tied_by_hand(self):
        desk = begun("begin c chain 1", "begin s spans 1")
        for name in ("c", "s"):
            put_row(desk, name, samples_of([0, 0, 1, -1]))
            self.assertEqual(desk.say("settle %s 3" % name), [])
            self.assertEqual(desk.say("few " + name), ["1", "4 0"])
            self.assertEqual(desk.say("many " + name), ["2"])
            self.assertEqual(desk.say("sure " + name), [])
        self.assertEqual(desk.say("paper c"), ["labels 0 1 1 2", "bar 0 2 3"])
        self.assertEqual(desk.say("paper s"), ["labels 0 1 1 1 2", "bar 0 2 3"])
        self.assertEqual(desk.say("close c"), desk.say("told c"))
        self.assertEqual(desk.say("few c"), ["2"])

    def test_least(self):
        desk = begun("begin a apart 9", "put a 0 0", "put a 1 3", "put a 2 0")
        self.assertEqual(desk.say("least a 1"), ["3/2", "0 3/2 2 3/2"])
        self.assertEqual(desk.say("least a 2"), ["0", "0 0 1 3", "2 0 2 0"])
        self.assertEqual(desk.say("least a 999999999999999999"), ["0", "0 0 1 3", "2 0 2 0"])

    def test_a_hint_with_more_figures_than_are_read(self):
        desk = begun("begin c chain 1")
        put_row(desk, "c", samples_of([0, 0, 1, -1]))
        self.assertEqual(desk.say("settle c " + EIGHTEEN), [])
        self.assertEqual(desk.say("few c"), ["1", NINETEEN + " 0"])

    def test_each_answer_is_what_a_keeper_tells(self):
        source = seeded(171)
        for _ in range(30):
            way = source.choice(WAYS)
            bound = source.choice([(0, 1), (1, 3), (2, 1)])
            row = some_row(source, source.randint(0, 12), 5, 2)
            desk = begun("begin it %s %s" % (way, ratio_word(bound)))
            keeper = Keeper(way, bound)
            put_row(desk, "it", row)
            for moment, value in row:
                keeper.gap(moment) if value is None else keeper.put(moment, *value)
            for moment in [entry[0] for entry in row][::3]:
                pieces = desk.say("settle it %d" % moment)
                self.assertEqual(read_telling(pieces), keeper.settle(moment))
                self.look_at(desk, keeper, way)
            self.assertEqual(read_telling(desk.say("close it")), keeper.close())
            self.look_at(desk, keeper, way)

    def look_at(self, desk, keeper, way):
        self.assertEqual(read_row(desk.say("row it")), keeper.row())
        self.assertEqual(read_telling(desk.say("told it")), keeper.told())
        self.assertEqual(read_telling(desk.say("sure it")), keeper.sure())
        self.assertEqual(read_paper(way, desk.say("paper it")), keeper.paper())
        self.assertEqual(desk.say("many it"), [str(keeper.many())])
        number, hint = keeper.few()
        self.assertEqual(desk.say("few it"), [str(number)] + ([] if hint is None else show_row([hint])))
        worst, telling, paper = least(keeper.row(), way, 12)
        self.assertEqual(desk.say("least it 12"), [ratio_word(worst)] + show_telling(telling))

    def test_parting(self):
        desk = begun("begin a apart 1/2", "begin b apart 1/2", "begin c spans 1", "begin d chain 7", "begin e spans 0",
                     "begin f apart 0")
        for one, other in (("a", "a"), ("a", "b"), ("b", "a"), ("d", "d"), ("e", "f"), ("f", "e")):
            self.assertEqual(desk.say("parting %s %s" % (one, other)), ["alike"])
        rules = {"a": ("fewest", "apart", (1, 2)), "c": ("fewest", "spans", (1, 1)), "d": ("fewest", "chain", (7, 1))}
        for one in rules:
            for other in rules:
                if one != other:
                    told = read_row(desk.say("parting %s %s" % (one, other)))
                    self.assertEqual(told, parting(rules[one], rules[other]))
                    self.assertEqual(len(told), 4 if {one, other} == {"a", "c"} else 3)
        self.refused(desk, "name", "parting a z", "parting z a", "parting z z")

    def test_names_in_order(self):
        desk = begun("begin b apart 0", "begin a chain 1", "begin c spans 2")
        self.assertEqual(desk.say("names"), ["b", "a", "c"])
        self.assertEqual(desk.say("drop b"), ["ok"])
        self.assertEqual(desk.say("names"), ["a", "c"])
        self.assertEqual(desk.say("begin b joined 0"), ["ok"])
        self.assertEqual(desk.say("names"), ["a", "c", "b"])
        self.assertEqual(desk.say("row b"), [])

    def test_a_name_begun_again_has_a_new_keeper(self):
        desk = begun("begin b apart 0", "put b 1 1")
        desk.say("close b")
        self.assertEqual(desk.say("begin b chain 9"), ["no name"])
        self.assertEqual(desk.say("drop b"), ["ok"])
        self.assertEqual(desk.say("begin b chain 9"), ["ok"])
        self.assertEqual(desk.say("row b"), [])
        self.assertEqual(desk.say("put b 1 2"), ["ok"])
        self.assertEqual(desk.say("paper b"), ["labels 0"])


class TestNoLine(DeskCase):
    def test_other_lines(self):
        desk = begun("begin a apart 0", "put a 1 1")
        self.refused(
            desk, "line", "", " ", "  ", "\n", "x", "help", "Begin b apart 0", "BEGIN b apart 0", "names ", " names",
            "names a", "names\n", "name", "close", "close ", "close a ", " close a", "close a\n", "close  a", "close a a",
            "begin", "begin b", "begin b apart", "begin b apart 0 0", "begin  b apart 0", "begin b  apart 0",
            "begin b apart 0 ", "begin b apart 0\n", "drop", "drop a a", "row", "row a 1", "told", "told a a", "sure a 3",
            "paper", "paper a apart", "many", "many a 1", "few", "few a 2", "least a", "least", "least a 1 1", "parting",
            "parting a", "parting a a a", "put a 2", "put a", "put", "put a 2 1 1", "gap a", "gap a 2 gap", "mend a 1",
            "mend a 1 2 3", "strike a", "strike a 1 1", "settle a", "settle a 1 1", "settled a", "closed a", "begin\nb", "0",
        )

    def test_words_that_are_not_of_their_kind(self):
        desk = begun("begin a apart 0", "put a 1 1")
        for word in ("", "x", "gap", "1/2", "-0", "01", "+1", "1.0", "1\n", "-", "--1", NINETEEN, "-" + NINETEEN):
            self.refused(
                desk, "line", "put a %s 1" % word, "gap a " + word, "mend a %s 1" % word, "strike a " + word,
                "settle a " + word, "least a " + word,
            )
        for word in ("", "x", "gap", "2/4", "1/1", "1/0", "-0", "01", "1/-2", "1.5", "1\n", "1/2\n", NINETEEN,
                     "1/" + NINETEEN):
            self.refused(desk, "line", "put a 2 " + word, "mend a 1 " + word, "begin b apart " + word)

    def test_names(self):
        desk = Desk()
        for name in ("", "A", "aB", "a1", "1", "a-b", "a_b", "abcdefghi", "a\n", "-", "a.", "~", "(a)", "z" * 100):
            self.refused(desk, "line", "begin %s apart 0" % name, "row " + name, "put %s 1 1" % name)
            self.refused(desk, "line", "parting a " + name, "parting %s a" % name, "drop " + name)
        for name in ("a", "z", "abcdefgh", "zzzzzzzz", "begin", "names", "gap", "row", "ok", "no", "line", "apart"):
            self.assertEqual(desk.say("row " + name), ["no name"])
            self.assertEqual(desk.say("begin %s apart 0" % name), ["ok"])
            self.assertEqual(desk.say("put %s 1 1" % name), ["ok"])
            self.assertEqual(desk.say("row " + name), ["1 1"])

    def test_ways(self):
        desk = Desk()
        for way in ("", "Apart", "a1", "apart0", "ap-art", "-", "0", "1/2", "apart\n", "ap_art"):
            self.refused(desk, "line", "begin a %s 0" % way)
        for way in ("x", "apar", "aparts", "least", "fewest", "spanschain", "z" * 300):
            self.refused(desk, "way", "begin a %s 0" % way, "begin a %s -1" % way)
        for name, way in zip("abcd", WAYS):
            self.assertEqual(desk.say("begin %s %s 0" % (name, way)), ["ok"])

    def test_eighteen_figures(self):
        desk = begun("begin a apart " + EIGHTEEN, "begin b apart 1/" + EIGHTEEN)
        self.assertEqual(desk.say("put b -%s -%s/2" % (EIGHTEEN, EIGHTEEN)), ["ok"])
        self.assertEqual(desk.say("put b %s 1/%s" % (EIGHTEEN, EIGHTEEN)), ["ok"])
        self.assertEqual(desk.say("row b"), ["-%s -%s/2" % (EIGHTEEN, EIGHTEEN), "%s 1/%s" % (EIGHTEEN, EIGHTEEN)])
        self.assertEqual(desk.say("settle b " + EIGHTEEN), [])


class TestRefusals(DeskCase):
    def test_name(self):
        desk = begun("begin a apart 0")
        self.refused(
            desk, "name", "begin a chain 1", "begin a none -1", "put b 1 1", "gap b 1", "mend b 1 1", "strike b 1",
            "drop b", "settle b 1", "close b", "row b", "told b", "sure b", "paper b", "many b", "few b", "least b -1",
            "parting a b", "parting b a",
        )

    def test_room(self):
        desk = begun(*["begin %s apart 0" % name for name in "abcdefghijkl"])
        self.refused(desk, "room", "begin m apart 0", "begin m none 0", "begin m apart -1", "begin m none -1")
        self.refused(desk, "name", "begin a apart 0", "begin l none -1")
        self.refused(desk, "line", "begin m apart x", "begin M apart 0")
        self.assertEqual(desk.say("drop c"), ["ok"])
        self.assertEqual(desk.say("begin m apart 0"), ["ok"])
        self.assertEqual(desk.say("begin c apart 0"), ["no room"])
        self.assertEqual(desk.say("names"), list("abdefghijkl") + ["m"])

    def test_way_and_bound(self):
        desk = Desk()
        self.refused(desk, "way", "begin a none 0", "begin a none -1", "begin a none -1/2")
        self.refused(desk, "bound", "begin a apart -1", "begin a chain -1/2", "begin a spans -" + EIGHTEEN)
        self.assertEqual(desk.say("begin a apart 0"), ["ok"])

    def test_few(self):
        desk = begun("begin a apart 0", "put a 1 1", "gap a 2", "put a 3 1")
        self.refused(desk, "few", "least a 1", "least a 0", "least a -5", "least a -" + EIGHTEEN)
        desk.say("close a")
        self.refused(desk, "few", "least a 1")
        self.assertEqual(desk.say("least a 2"), ["0", "1 1 1 1", "3 1 3 1"])

    def test_settled_taken_missing(self):
        desk = begun("begin a apart 0", "put a 1 1", "gap a 2", "put a 5 1", "gap a 6")
        desk.say("settle a 2")
        self.refused(desk, "settled", "put a 2 1", "put a 0 1", "gap a 1", "mend a 1 1", "mend a 0 1", "strike a 2",
                     "strike a -9", "settle a 1", "settle a -" + EIGHTEEN)
        self.refused(desk, "taken", "put a 5 1", "put a 6 1", "gap a 5", "gap a 6")
        self.refused(desk, "missing", "mend a 6 1", "mend a 7 1", "strike a 7")
        self.assertEqual(desk.say("put a 7 1"), ["ok"])
        self.assertEqual(desk.say("mend a 7 3"), ["ok"])

    def test_full(self):
        desk = begun("begin a apart 0")
        put_row(desk, "a", samples_of(range(40)))
        self.refused(desk, "full", "put a 40 1", "gap a -1")
        self.refused(desk, "taken", "put a 39 1", "gap a 0")
        desk.say("settle a 3")
        self.refused(desk, "settled", "put a 3 1", "gap a -1")
        self.assertEqual(desk.say("strike a 9"), ["ok"])
        self.assertEqual(desk.say("gap a 40"), ["ok"])

    def test_closed(self):
        desk = begun("begin a apart 0")
        put_row(desk, "a", samples_of(range(40)))
        desk.say("settle a 3")
        self.assertEqual(desk.say("close a"), ["0 0 39 39"])
        self.refused(desk, "closed", "put a 3 1", "put a 41 1", "gap a 3", "gap a 41", "mend a 3 1", "mend a 41 1",
                     "strike a 3", "strike a 41", "settle a 2", "settle a 50", "close a")
        self.refused(desk, "line", "put a 3 1/0", "close a a")


class TestWhoseLists(DeskCase):
    def test_what_is_done_to_told_lists_changes_nothing(self):
        desk = begun("begin a apart 0", "begin b spans 1", "put b 1 1", "put a 1 1")
        ahead = seen(desk)
        for line in ("names", "row a", "told a", "sure a", "paper b", "many a", "few b", "least a 3", "parting a b",
                     "parting a a", "row z", "x"):
            awaited = desk.say(line)
            told = desk.say(line)
            told.append("more")
            told.reverse()
            self.assertEqual(desk.say(line), awaited)
        self.assertEqual(seen(desk), ahead)

    def test_two_desks_by_turns(self):
        one = begun("begin a apart 0")
        other = begun("begin a chain 1", "begin b spans 0")
        self.assertEqual(one.say("put a 1 1"), ["ok"])
        self.assertEqual(other.say("put a 1 2"), ["ok"])
        self.assertEqual(one.say("close a"), ["1 1 1 1"])
        self.assertEqual(other.say("gap a 5"), ["ok"])
        self.assertEqual(other.say("drop b"), ["ok"])
        self.assertEqual(one.say("names"), ["a"])
        self.assertEqual(one.say("begin b apart 0"), ["ok"])
        self.assertEqual(other.say("names"), ["a"])
        self.assertEqual((one.say("row a"), other.say("row a")), (["1 1"], ["1 2", "5 gap"]))

    def test_keepers_of_one_desk_by_turns(self):
        desk = begun("begin a apart 0", "begin b apart 0", "put a 1 1", "put b 1 2", "put a 2 2")
        desk.say("close a")
        self.assertEqual(desk.say("put b 2 9"), ["ok"])
        self.assertEqual(desk.say("told a"), show_telling(fewest(samples_of([1, 2], 1), "apart", (0, 1))[0]))
        self.assertEqual(desk.say("row b"), ["1 2", "2 9"])


if __name__ == "__main__":
    unittest.main()
