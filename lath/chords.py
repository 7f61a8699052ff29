"""Chords: straight lines from sample to sample, and the fewest of them that lead through a list of samples."""

from lath.lines import loose_slope
from lath.ratios import greatest, loose_minus, loose_plus, order, reduced, smallest


def loose_farthest(samples, first, last):
    # What the samples between stand off, all multiplied by the bottom of the chord's slope: so what is compared
    # has far fewer figures.
    start = samples[first]
    steep = loose_slope(start, samples[last])
    base = start[1][0] * (steep[1] // start[1][1])
    found = None
    miss = (0, 1)
    for place in range(first + 1, last):
        moment = samples[place][0]
        value = samples[place][1]
        along = base + steep[0] * (moment - start[0])
        stood = (abs(value[0] * steep[1] - value[1] * along), value[1])
        if found is None or order(stood, miss) > 0:
            found = place
            miss = stood
    return None if found is None else (found, (miss[0], miss[1] * steep[1]))


def farthest(samples, first, last):
    found = loose_farthest(samples, first, last)
    return None if found is None else (found[0], reduced(found[1]))


def good_behind(samples, first, bound):
    # A chord from the first sample passes all between within the bound just where it is no gentler than the
    # slopes to their values less the bound and no steeper than those to their values plus the bound.
    start = samples[first]
    found = []
    gentlest = None
    steepest = None
    for place in range(first + 1, len(samples)):
        moment = samples[place][0]
        value = samples[place][1]
        steep = loose_slope(start, samples[place])
        gentle = loose_slope(start, (moment, loose_minus(value, bound)))
        steeper = loose_slope(start, (moment, loose_plus(value, bound)))
        if gentlest is None:
            gentlest = gentle
            steepest = steeper
            found.append(place)
            continue
        if order(gentlest, steep) <= 0 and order(steep, steepest) <= 0:
            found.append(place)
        gentlest = greatest([gentlest, gentle])
        steepest = smallest([steepest, steeper])
    return found


def leaps(samples, bound, tied):
    # For each place the labels' places to which one piece leads from it. Where the pieces are not tied to one
    # another, a piece takes up the samples ahead of the place to which it leads, one sample at least.
    found = []
    for first in range(len(samples)):
        good = good_behind(samples, first, bound)
        found.append(good if tied else [first + 1] + [last + 1 for last in good])
    return found


def labels_by(found, many):
    # No telling needs more pieces than there are labels: that number stands for not yet reached.
    told = [0] + [many] * (many - 1)
    for first, behind in enumerate(found):
        for last in behind:
            told[last] = min(told[last], told[first] + 1)
    return told


def labels(samples, bound, tied):
    return labels_by(leaps(samples, bound, tied), len(samples) if tied else len(samples) + 1)


def bars_by(samples, told, tied):
    found = []
    for first in range(len(told)):
        for last in range(first + 1, len(told)):
            if told[last] > told[first] + 1:
                end = last if tied else last - 1
                mid = loose_farthest(samples, first, end)[0]
                found.append((samples[first][0], samples[mid][0], samples[end][0]))
    return found


def bars(samples, bound, tied):
    return bars_by(samples, labels(samples, bound, tied), tied)
