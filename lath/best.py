"""The line whose greatest miss over a list of samples is least, and the three samples that force that miss."""

from lath.lines import line_by, loose_off, slope
from lath.ratios import divisor, greatest, plus, reduced, size, times
from lath.threes import stand


def worst_off(line, samples):
    return reduced(greatest([(0, 1)] + [size(loose_off(line, sample)) for sample in samples]))


def whole_points(samples):
    # Which three is the forced one does not change when all values are multiplied by one number; so a common
    # bottom is taken out, and the search goes on with whole numbers.
    common = 1
    for sample in samples:
        bottom = sample[1][1]
        common = common // divisor(common, bottom) * bottom
    return [(sample[0], sample[1][0] * (common // sample[1][1])) for sample in samples]


def above_chord(one, last, point):
    ahead = one[1] * (last[0] - point[0])
    behind = last[1] * (point[0] - one[0])
    return point[1] * (last[0] - one[0]) - ahead - behind


def scaled_offs(points, three):
    # The offs from the line half way between the chord of the outer two and the middle one, all multiplied by
    # twice the step between the outer two: so they are whole numbers.
    one = points[three[0]]
    last = points[three[2]]
    lift = above_chord(one, last, points[three[1]])
    return [2 * above_chord(one, last, point) - lift for point in points]


def exchanged(three, far, offs):
    # The offs at the new three lie above and below by turns again, none is nearer than before and that of far
    # is farther: so the miss that a three forces grows with each exchange, and no three comes twice. (From a
    # flat three every exchange leads to one that is not flat, as far lies off its line.)
    first = three[0]
    mid = three[1]
    last = three[2]
    if far < mid and (offs[far] > 0) == (offs[first] > 0):
        return (far, mid, last)
    if far > mid and (offs[far] > 0) == (offs[last] > 0):
        return (first, mid, far)
    if far < first:
        return (far, first, mid)
    if far > last:
        return (mid, last, far)
    return (first, far, last)


def forcing_three(samples):
    points = whole_points(samples)
    three = (0, len(points) // 2, len(points) - 1)
    while True:
        offs = scaled_offs(points, three)
        misses = [abs(scaled) for scaled in offs]
        worst = max(misses)
        if worst == misses[three[1]]:
            return three
        three = exchanged(three, misses.index(worst), offs)


def best(samples):
    first = samples[0]
    if len(samples) == 1:
        return (((0, 1), first[1]), (0, 1), None)
    if len(samples) == 2:
        return (line_by(slope(first, samples[1]), first), (0, 1), None)
    three = forcing_three(samples)
    one = samples[three[0]]
    last = samples[three[2]]
    half = times(stand(one, samples[three[1]], last), (1, 2))
    chord = line_by(slope(one, last), one)
    forced = None if half[0] == 0 else three
    return ((chord[0], plus(chord[1], half)), size(half), forced)
