"""Peaks: the three of a list of samples, cap or cup, that stands off farthest, as the samples come."""

from lath.ratios import opposite, order
from lath.threes import loose_stand


class Peak:
    # Sign 1 looks for caps, -1 for cups: as caps of the samples turned upside down. The corners are those of the
    # samples' lower hull: the cap that stands off farthest has two neighbouring ones as its outer two.

    def __init__(self, sign):
        self.sign = sign
        self.points = []
        self.corners = []
        self.strongest = ((0, 1), None)

    def take(self, sample):
        point = sample if self.sign > 0 else (sample[0], opposite(sample[1]))
        while len(self.corners) > 1 and loose_stand(self.corners[-2], self.corners[-1], point)[0] >= 0:
            self.corners.pop()
        if len(self.corners) > 0:
            self.look_between(self.corners[-1], point)
        self.corners.append(point)
        self.points.append(point)

    def look_between(self, corner, point):
        # Over all other edges of the hull the samples stand as they stood.
        for mid in self.points:
            if mid[0] > corner[0]:
                stood = loose_stand(corner, mid, point)
                if order(stood, self.strongest[0]) > 0:
                    self.strongest = (stood, (corner[0], mid[0], point[0]))


def stronger(one, other):
    return other if order(other[0], one[0]) > 0 else one


def strongest_from(samples, signs):
    # For each sample the tuple (size of the stand, three of moments) of the strongest three up to it, of the kinds
    # that are looked for; (nought, None) where there is none.
    peaks = [Peak(sign) for sign in signs]
    found = []
    for sample in samples:
        best = ((0, 1), None)
        for peak in peaks:
            peak.take(sample)
            best = stronger(best, peak.strongest)
        found.append(best)
    return found


def is_beyond(strongest, limit, at):
    beyond = order(strongest[0], limit)
    return strongest[1] is not None and (beyond > 0 or (at and beyond == 0))


class Watch:
    # Of one run, the strongest threes from each place on; reckoned when they are first asked for, as with large
    # numbers this is what costs.

    def __init__(self, run, signs):
        self.run = run
        self.signs = signs
        self.known = {}

    def strongest_behind(self, first):
        if first not in self.known:
            self.known[first] = strongest_from(self.run[first:], self.signs)
        return self.known[first]

    def ending_beyond(self, first, limit, at):
        # The place at which the first three from a place on ends that is beyond the limit, and that three.
        for step, strongest in enumerate(self.strongest_behind(first)):
            if is_beyond(strongest, limit, at):
                return (first + step, strongest[1])
        return None

    def threes_beyond(self, limit, most, at):
        # As many threes as may be, each beginning no earlier than the one ahead ends (but no more than are asked
        # for): the next one is always one that ends earliest.
        found = []
        first = 0
        while len(found) < most:
            ended = self.ending_beyond(first, limit, at)
            if ended is None:
                break
            found.append(ended[1])
            first = ended[0]
        return found
