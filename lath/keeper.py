"""A Keeper: a row as it comes, entry by entry, and what is certain of it."""

from lath.certain import few, sure
from lath.errors import Closed, Full, Missing, Settled, Taken
from lath.least import least
from lath.ratios import ratio
from lath.rows import MOST
from lath.tell import check_bound, check_way, fewest


class Keeper:
    # The entries are told by their moments; the mark is the settled moment, None while none was told.

    def __init__(self, way, bound):
        check_way(way)
        check_bound(bound)
        self.way = way
        self.bound = bound
        self.entries = {}
        self.mark = None
        self.ended = False

    def put(self, moment, top, bottom=1):
        self.check_not_closed()
        value = ratio(top, bottom)
        self.lay(moment, value)

    def gap(self, moment):
        self.check_not_closed()
        self.lay(moment, None)

    def mend(self, moment, top, bottom=1):
        self.check_not_closed()
        value = ratio(top, bottom)
        self.check_not_settled(moment)
        if self.entries.get(moment) is None:
            raise Missing("no sample stands at the moment")
        self.entries[moment] = value

    def strike(self, moment):
        self.check_not_closed()
        self.check_not_settled(moment)
        if moment not in self.entries:
            raise Missing("no entry stands at the moment")
        self.entries.pop(moment)

    def settle(self, moment):
        self.check_not_closed()
        if self.mark is not None and moment < self.mark:
            raise Settled("the settled moment lies behind this one")
        ahead = self.sure()
        self.mark = moment
        return self.sure()[len(ahead):]

    def close(self):
        self.check_not_closed()
        ahead = self.sure()
        self.ended = True
        return self.sure()[len(ahead):]

    def lay(self, moment, value):
        self.check_not_settled(moment)
        if moment in self.entries:
            raise Taken("an entry stands at the moment")
        if len(self.entries) >= MOST:
            raise Full("as many entries stand as a row may have")
        self.entries[moment] = value

    def check_not_closed(self):
        if self.ended:
            raise Closed("nothing comes behind close")

    def check_not_settled(self, moment):
        if self.mark is not None and moment <= self.mark:
            raise Settled("the moment is settled")

    def row(self):
        return [(moment, self.entries[moment]) for moment in sorted(self.entries)]

    def told(self):
        return fewest(self.row(), self.way, self.bound)[0]

    def paper(self):
        return fewest(self.row(), self.way, self.bound)[1]

    def many(self):
        return len(self.told())

    def least(self, most):
        return least(self.row(), self.way, most)

    def settled(self):
        return self.mark

    def closed(self):
        return self.ended

    def sure(self):
        if self.ended:
            return self.told()
        if self.mark is None:
            return []
        return sure(self.row(), self.way, self.bound, self.mark)

    def few(self):
        if self.ended:
            return (self.many(), None)
        if self.mark is None:
            return (0, None)
        return few(self.row(), self.way, self.bound, self.mark)
