"""What is certain of a row of which the entries up to a moment are settled, and how few pieces it may come to."""

from lath.chords import labels
from lath.lines import loose_along, loose_slope
from lath.ratios import greatest, loose_minus, loose_plus, order, reduced, smallest
from lath.tell import told_by


def settled_entries(row, moment):
    return [entry for entry in row if entry[0] <= moment]


def parted_at_gap(settled):
    # The entries up to the last gap mark, and the samples behind it: the run under way.
    gaps = [place for place, entry in enumerate(settled) if entry[1] is None]
    behind = gaps[-1] + 1 if len(gaps) > 0 else 0
    return (settled[:behind], settled[behind:])


def certain_of_run(run, way, bound):
    if way == "spans" or way == "chain":
        return []
    pieces = told_by(run, way, bound)[0]
    # The last stretch, or link, is still under way; and where the piece ends that meets it is not known either.
    return pieces[:-1] if way == "apart" else pieces[:-2]


def sure(row, way, bound, moment):
    parts = parted_at_gap(settled_entries(row, moment))
    return told_by(parts[0], way, bound)[0] + certain_of_run(parts[1], way, bound)


def slope_through(samples, bound):
    # The gentlest slope of the lines from the first sample on that bear all behind it (one at least), or None.
    start = samples[0]
    lows = [loose_slope(start, (one[0], loose_minus(one[1], bound))) for one in samples[1:]]
    highs = [loose_slope(start, (one[0], loose_plus(one[1], bound))) for one in samples[1:]]
    return greatest(lows) if order(greatest(lows), smallest(highs)) <= 0 else None


def spared(run, way, bound, moment):
    # One sample more can end a piece that begins at a place and bears all behind it; what comes later still spares
    # no more, as the settled samples behind that place lie in one piece already.
    tied = way == "chain"
    told = labels(run, bound, tied)
    found = (max(1, told[-1]), None)
    for place in range(len(run) - 1):
        steep = slope_through(run[place:], bound)
        if steep is not None and told[place] + 1 < found[0]:
            value = reduced(loose_along(steep, run[place], moment + 1))
            found = (told[place] + 1, (moment + 1, value))
    return found


def few(row, way, bound, moment):
    parts = parted_at_gap(settled_entries(row, moment))
    ahead = len(told_by(parts[0], way, bound)[0])
    if len(parts[1]) == 0:
        return (ahead, None)
    if way == "apart" or way == "joined":
        return (ahead + len(told_by(parts[1], way, bound)[0]), None)
    found = spared(parts[1], way, bound, moment)
    return (ahead + found[0], found[1])
