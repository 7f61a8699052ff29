import unittest
from fractions import Fraction

from helper import pair, sample, samples_of, seeded, some_fraction, some_row
from lath.certain import few, sure
from lath.errors import (
    Closed, Full, LathError, Missing, NoBound, NoRatio, NoWay, Settled, Taken, TooFew,
)
from lath.keeper import Keeper
from lath.least import least
from lath.tell import WAYS, fewest, many

TIED = ("spans", "chain")
SOME_BOUNDS = [Fraction(0), Fraction(1, 3), Fraction(1), Fraction(3)]


def filled(row, way="apart", bound=(0, 1)):
    keeper = Keeper(way, bound)
    for moment, value in row:
        if value is None:
            keeper.gap(moment)
        else:
            keeper.put(moment, value[0], value[1])
    return keeper


def seen(keeper):
    """All that the keeper tells."""
    told = [keeper.row(), keeper.told(), keeper.paper(), keeper.many(), keeper.settled(), keeper.closed()]
    return told + [keeper.sure(), keeper.few(), keeper.least(99)]


class KeeperCase(unittest.TestCase):
    def refused(self, keeper, error, deed, *given):
        ahead = seen(keeper)
        with self.assertRaises(LathError) as caught:
            getattr(keeper, deed)(*given)
        self.assertIs(caught.exception.__class__, error, (deed, given))
        self.assertEqual(seen(keeper), ahead)

    def look_at(self, keeper, way, bound):
        row = keeper.row()
        self.assertEqual((keeper.told(), keeper.paper()), fewest(row, way, bound))
        self.assertEqual(keeper.many(), many(row, way, bound))
        for most in (12, 40):
            self.assertEqual(keeper.least(most), least(row, way, most))
        if keeper.closed():
            self.assertEqual(keeper.sure(), keeper.told())
            self.assertEqual(keeper.few(), (keeper.many(), None))
        elif keeper.settled() is None:
            self.assertEqual(keeper.sure(), [])
            self.assertEqual(keeper.few(), (0, None))
        else:
            self.assertEqual(keeper.sure(), sure(row, way, bound, keeper.settled()))
            self.assertEqual(keeper.few(), few(row, way, bound, keeper.settled()))


class TestMaking(KeeperCase):
    def test_no_way_ahead_of_no_bound(self):
        for way in ("", "Apart", "apart ", "least", "chain\n"):
            for bound in ((0, 1), (-1, 2)):
                with self.assertRaises(NoWay):
                    Keeper(way, bound)
        for way in WAYS:
            for bound in ((-1, 1), (-1, 10 ** 2000)):
                with self.assertRaises(NoBound):
                    Keeper(way, bound)
            self.assertEqual(Keeper(way, (0, 1)).row(), [])

    def test_a_new_one(self):
        for way in WAYS:
            keeper = Keeper(way, (1, 2))
            self.assertEqual(seen(keeper), [[], [], [], 0, None, False, [], (0, None), ((0, 1), [], [])])
            self.assertEqual(keeper.settle(5), [])
            self.assertEqual(keeper.close(), [])
            self.assertEqual(seen(keeper), [[], [], [], 0, 5, True, [], (0, None), ((0, 1), [], [])])


class TestDeeds(KeeperCase):
    def test_deeds_tell_none(self):
        keeper = Keeper("apart", (0, 1))
        self.assertIsNone(keeper.put(3, 1))
        self.assertIsNone(keeper.gap(4))
        self.assertIsNone(keeper.mend(3, 2))
        self.assertIsNone(keeper.strike(4))

    def test_values(self):
        keeper = Keeper("apart", (0, 1))
        keeper.put(1, 7)
        keeper.put(2, 6, -4)
        keeper.put(3, -6, -4)
        keeper.put(4, 0, -9)
        keeper.put(-5, -10, 5)
        self.assertEqual(keeper.row(), [(-5, (-2, 1)), (1, (7, 1)), (2, (-3, 2)), (3, (3, 2)), (4, (0, 1))])
        keeper.mend(1, 4, -6)
        keeper.mend(2, 5)
        keeper.mend(4, 0, 3)
        self.assertEqual(keeper.row(), [(-5, (-2, 1)), (1, (-2, 3)), (2, (5, 1)), (3, (3, 2)), (4, (0, 1))])
        keeper.put(moment=9, top=1, bottom=2)
        keeper.mend(moment=9, top=3, bottom=6)
        self.assertEqual(keeper.row()[-1], (9, (1, 2)))

    def test_any_order_of_moments(self):
        source = seeded(131)
        for way in WAYS:
            row = some_row(source, 12)
            shuffled = list(row)
            source.shuffle(shuffled)
            keeper = filled(shuffled, way, (1, 1))
            self.assertEqual(keeper.row(), row)
            self.look_at(keeper, way, (1, 1))

    def test_strike_and_put_again(self):
        keeper = filled([sample(1, 1), (2, None), sample(3, 5)])
        keeper.strike(2)
        self.assertEqual(keeper.row(), [sample(1, 1), sample(3, 5)])
        keeper.strike(1)
        self.assertEqual(keeper.row(), [sample(3, 5)])
        keeper.gap(1)
        keeper.put(2, 8)
        self.assertEqual(keeper.row(), [(1, None), sample(2, 8), sample(3, 5)])
        self.refused(keeper, Missing, "mend", 1, 4)
        keeper.strike(1)
        keeper.put(1, 4)
        keeper.mend(1, 5)
        self.assertEqual(keeper.row()[0], sample(1, 5))

    def test_a_value_of_nought_is_a_sample(self):
        keeper = filled([sample(1, 0)])
        keeper.mend(1, 0)
        keeper.mend(1, 3)
        self.assertEqual(keeper.row(), [sample(1, 3)])


class TestRefusals(KeeperCase):
    def test_no_ratio(self):
        keeper = filled([sample(1, 1)])
        self.refused(keeper, NoRatio, "put", 2, 5, 0)
        self.refused(keeper, NoRatio, "put", 1, 0, 0)
        self.refused(keeper, NoRatio, "mend", 1, 5, 0)
        self.refused(keeper, NoRatio, "mend", 7, 5, 0)
        keeper.put(2, 5, 1)
        keeper.mend(1, 5, 2)

    def test_settled(self):
        keeper = filled([sample(1, 1), sample(5, 2), (7, None)])
        keeper.settle(5)
        for moment in (5, 4, 1, -10 ** 30):
            self.refused(keeper, Settled, "put", moment, 1)
            self.refused(keeper, Settled, "gap", moment)
            self.refused(keeper, Settled, "mend", moment, 1)
            self.refused(keeper, Settled, "strike", moment)
        for moment in (4, 1, -10 ** 30):
            self.refused(keeper, Settled, "settle", moment)
        keeper.put(6, 1)
        keeper.mend(6, 2)
        keeper.strike(7)
        keeper.gap(8)
        self.assertEqual(keeper.row(), [sample(1, 1), sample(5, 2), sample(6, 2), (8, None)])

    def test_taken_and_missing(self):
        keeper = filled([sample(1, 1), (2, None)])
        for moment in (1, 2):
            self.refused(keeper, Taken, "put", moment, 1)
            self.refused(keeper, Taken, "gap", moment)
        self.refused(keeper, Missing, "mend", 2, 1)
        self.refused(keeper, Missing, "mend", 3, 1)
        self.refused(keeper, Missing, "strike", 3)
        keeper.strike(1)
        self.refused(keeper, Missing, "strike", 1)
        self.refused(keeper, Missing, "mend", 1, 1)
        keeper.put(1, 1)
        keeper.mend(1, 3)

    def test_full(self):
        keeper = filled([sample(place, place) for place in range(39)] + [(39, None)])
        self.refused(keeper, Full, "put", 40, 1)
        self.refused(keeper, Full, "gap", -1)
        self.refused(keeper, Taken, "put", 39, 1)
        self.refused(keeper, Taken, "gap", 3)
        keeper.mend(3, 9)
        keeper.strike(5)
        keeper.put(40, 1)
        self.refused(keeper, Full, "put", 5, 5)
        keeper.strike(39)
        keeper.gap(5)
        self.assertEqual(len(keeper.row()), 40)

    def test_closed(self):
        keeper = filled([sample(1, 1), (2, None)])
        keeper.close()
        for deed in (("put", 5, 1), ("put", 1, 1, 0), ("gap", 5), ("gap", 1), ("mend", 1, 2), ("mend", 9, 2, 0),
                     ("strike", 1), ("strike", 9), ("settle", 9), ("settle", -9), ("close",)):
            self.refused(keeper, Closed, *deed)

    def test_which_one_goes_first(self):
        keeper = filled([sample(place, place) for place in range(40)])
        keeper.settle(5)
        self.refused(keeper, NoRatio, "put", 3, 1, 0)
        self.refused(keeper, NoRatio, "put", 39, 1, 0)
        self.refused(keeper, NoRatio, "put", 50, 1, 0)
        self.refused(keeper, NoRatio, "mend", 3, 1, 0)
        self.refused(keeper, NoRatio, "mend", 50, 1, 0)
        self.refused(keeper, Settled, "put", 3, 1)
        self.refused(keeper, Settled, "put", -3, 1)
        self.refused(keeper, Settled, "gap", 3)
        self.refused(keeper, Settled, "gap", -3)
        self.refused(keeper, Settled, "mend", -3, 1)
        self.refused(keeper, Settled, "strike", -3)
        self.refused(keeper, Taken, "put", 6, 1)
        self.refused(keeper, Taken, "gap", 6)
        self.refused(keeper, Full, "put", 50, 1)
        self.refused(keeper, Full, "gap", 50)
        keeper.close()
        self.refused(keeper, Closed, "put", 3, 1, 0)
        self.refused(keeper, Closed, "mend", 3, 1, 0)
        self.refused(keeper, Closed, "gap", 3)
        self.refused(keeper, Closed, "strike", -3)
        self.refused(keeper, Closed, "settle", 3)

    def test_least_too_few(self):
        for way in WAYS:
            keeper = filled([sample(1, 1), (2, None), sample(3, 1)], way)
            for closed in (False, True):
                for most in (1, 0, -5):
                    self.refused(keeper, TooFew, "least", most)
                self.assertEqual(keeper.least(2)[0], (0, 1))
                if not closed:
                    keeper.close()


class TestSettling(KeeperCase):
    def test_settle_at_the_settled_moment_and_far_behind(self):
        for way in WAYS:
            keeper = filled(samples_of([0, 9, 0, 9, 0]) + [(5, None), sample(6, 1)], way)
            first = keeper.settle(3)
            self.assertEqual(keeper.settle(3), [])
            self.assertEqual(keeper.settled(), 3)
            behind = keeper.settle(10 ** 40)
            self.assertEqual(first + behind, keeper.sure())
            self.assertEqual(keeper.settle(10 ** 40), [])
            self.refused(keeper, Settled, "settle", 10 ** 40 - 1)
            self.refused(keeper, Settled, "put", 10 ** 40, 1)
            keeper.put(10 ** 40 + 1, 1)
            self.assertEqual(first + behind + keeper.close(), keeper.told())
            self.assertEqual(keeper.settled(), 10 ** 40)

    def test_settle_ahead_of_all(self):
        keeper = filled(samples_of([0, 9, 0, 9, 0]))
        self.assertEqual(keeper.settle(-5), [])
        self.assertEqual(keeper.settled(), -5)
        self.assertEqual((keeper.sure(), keeper.few()), ([], (0, None)))
        keeper.put(-4, 1)
        self.refused(keeper, Settled, "put", -5, 1)

    def test_close_with_nothing_settled(self):
        for way in WAYS:
            keeper = filled(samples_of([0, 9, 0, 9, 0]), way)
            self.assertEqual((keeper.sure(), keeper.few(), keeper.settled()), ([], (0, None), None))
            self.assertEqual(keeper.close(), fewest(keeper.row(), way, (0, 1))[0])
            self.assertIsNone(keeper.settled())
            self.assertIs(keeper.closed(), True)
            self.assertEqual(keeper.few(), (keeper.many(), None))

    def test_a_hint_is_told(self):
        for way in TIED:
            keeper = filled(samples_of([0, 0, 1, -1]), way, (1, 1))
            keeper.settle(3)
            self.assertEqual(keeper.few(), (1, (4, (0, 1))))
            keeper.put(4, 0)
            self.assertEqual(keeper.many(), 1)
            keeper.strike(4)
            keeper.close()
            self.assertEqual(keeper.few(), (2, None))

    def test_rows_that_come_entry_by_entry(self):
        source = seeded(132)
        for _ in range(60):
            way = source.choice(WAYS)
            bound = pair(source.choice(SOME_BOUNDS))
            self.come(source, way, bound)

    def come(self, source, way, bound):
        """Entries come late, are put right and struck out; the settled moment rises now and then."""
        keeper = Keeper(way, bound)
        model = {}
        handed = []
        mark = source.randint(-5, 0)
        for _ in range(30):
            moment = mark + source.randint(1, 9)
            value = some_fraction(source, 5, 2)
            if moment in model and source.random() < 0.5:
                keeper.strike(moment)
                model.pop(moment)
            elif moment in model:
                if model[moment] is None:
                    self.refused(keeper, Missing, "mend", moment, 1)
                else:
                    keeper.mend(moment, value.numerator * 3, value.denominator * 3)
                    model[moment] = pair(value)
            elif len(model) < 40:
                model[moment] = None if source.random() < 0.2 else pair(value)
                if model[moment] is None:
                    keeper.gap(moment)
                else:
                    keeper.put(moment, -value.numerator, -value.denominator)
            if source.random() < 0.3:
                mark += source.randint(0, 4)
                handed += keeper.settle(mark)
                self.assertEqual(keeper.settled(), mark)
            self.assertEqual(keeper.row(), sorted(model.items()))
            self.assertEqual(keeper.sure(), handed)
            self.look_at(keeper, way, bound)
            self.assertEqual(keeper.told()[:len(handed)], handed)
        handed += keeper.close()
        self.look_at(keeper, way, bound)
        self.assertEqual(keeper.told(), handed)


class TestWhoseLists(KeeperCase):
    def test_what_is_done_to_a_told_list_changes_nothing(self):
        row = samples_of([0, 9, 0, 9, 0]) + [(5, None)] + samples_of([3, 1, 4], 6)
        for way in WAYS:
            keeper = filled(row, way)
            self.assertEqual(keeper.settle(7), sure(row, way, (0, 1), 7))
            for _ in range(2):
                ahead = seen(keeper)
                for told in (keeper.row(), keeper.told(), keeper.paper(), keeper.sure(), keeper.least(3)[1],
                             keeper.least(3)[2]):
                    for part in told:
                        if way in TIED and isinstance(part[0], list):
                            part[0].clear()
                            part[1].append("more")
                    told.append("more")
                    told.reverse()
                self.assertEqual(seen(keeper), ahead)
                if not keeper.closed():
                    keeper.settle(8).append("more")
                    self.assertEqual(keeper.sure(), sure(row, way, (0, 1), 8))
                    keeper.close().clear()
                    self.assertEqual(keeper.sure(), fewest(row, way, (0, 1))[0])

    def test_two_keepers_by_turns(self):
        one = Keeper("apart", (0, 1))
        other = Keeper("apart", (0, 1))
        one.put(1, 1)
        other.put(1, 2)
        one.put(2, 5)
        other.gap(3)
        one.settle(1)
        self.assertIsNone(other.settled())
        other.strike(1)
        other.put(1, 7)
        one.close()
        self.assertIs(other.closed(), False)
        other.put(9, 9)
        self.assertEqual(one.row(), [sample(1, 1), sample(2, 5)])
        self.assertEqual(other.row(), [sample(1, 7), (3, None), sample(9, 9)])
        self.look_at(one, "apart", (0, 1))
        self.look_at(other, "apart", (0, 1))

    def test_questions_change_nothing(self):
        for way in WAYS:
            keeper = filled(samples_of([0, 9, 0, 9, 0]), way)
            keeper.settle(3)
            self.assertEqual(seen(keeper), seen(keeper))


if __name__ == "__main__":
    unittest.main()
