"""Lines: tuples (slope, height) of two fractions, height the one at the moment 0.

The defs called loose_ tell quotients (lath.ratios), for what is only compared.
"""

from lath.ratios import loose_minus, loose_plus, loose_times, minus, over, reduced


def loose_slope(one, other):
    rise = loose_minus(other[1], one[1])
    step = other[0] - one[0]
    if step < 0:
        return (-rise[0], rise[1] * -step)
    return (rise[0], rise[1] * step)


def loose_along(steep, sample, moment):
    return loose_plus(sample[1], loose_times(steep, (moment - sample[0], 1)))


def loose_height(line, when):
    return loose_plus(loose_times(line[0], when), line[1])


def loose_off(line, sample):
    return loose_minus(sample[1], loose_height(line, (sample[0], 1)))


def slope(one, other):
    return reduced(loose_slope(one, other))


def line_by(steep, sample):
    return (steep, reduced(loose_along(steep, sample, 0)))


def height(line, when):
    return reduced(loose_height(line, when))


def off(line, sample):
    return reduced(loose_off(line, sample))


def meet(line, other):
    if line[0] == other[0]:
        return None
    when = over(minus(other[1], line[1]), minus(line[0], other[0]))
    return (when, height(line, when))
