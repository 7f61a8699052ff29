"""The telling of a row with the fewest pieces within a bound, by any of the four ways, and its paper."""

from lath.apart import apart
from lath.errors import NoBound, NoWay
from lath.joined import joined
from lath.rows import checked
from lath.tied import chain, spans

WAYS = ("apart", "joined", "spans", "chain")


def check_way(way):
    if way not in WAYS:
        raise NoWay("the way is none of the four")


def check_bound(bound):
    if bound[0] < 0:
        raise NoBound("the bound is below nought")


def told_by(row, way, bound):
    if way == "apart":
        return apart(row, bound)
    if way == "joined":
        return joined(row, bound)
    if way == "spans":
        return spans(row, bound)
    return chain(row, bound)


def fewest(row, way, bound):
    check_way(way)
    check_bound(bound)
    return told_by(checked(row), way, bound)


def many(row, way, bound):
    return len(fewest(row, way, bound)[0])
