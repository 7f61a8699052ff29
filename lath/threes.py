"""Threes: three samples with strictly rising moments, and how the middle one stands off the outer two."""

from lath.lines import loose_along, loose_slope
from lath.ratios import loose_minus, loose_times, order, reduced, size


def loose_stand(one, mid, last):
    return loose_minus(mid[1], loose_along(loose_slope(one, last), one, mid[0]))


def stand(one, mid, last):
    return reduced(loose_stand(one, mid, last))


def kind(one, mid, last):
    above = loose_stand(one, mid, last)[0]
    if above > 0:
        return "cap"
    if above < 0:
        return "cup"
    return "flat"


def pinched(one, mid, last, bound):
    return order(size(loose_stand(one, mid, last)), loose_times((2, 1), bound)) > 0
