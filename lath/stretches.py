"""Stretches: neighbouring samples that one line bears within a bound."""

from lath.lines import loose_along, loose_slope
from lath.ratios import greatest, loose_minus, loose_plus, order, plus, reduced, smallest


# A line bears the samples where it lies nowhere below a value less the bound nor above a value plus the bound.
# There is one of some slope just where no two samples forbid that slope: it must lead from the earlier one's
# high end up to the later one's low end or higher, and from the earlier one's low end up to the later one's high
# end or lower. These two are the slopes from the earlier sample itself to the later one lowered, or raised, by
# twice the bound. (The known one of the two is that of the samples so far, None where none is forbidden yet.)


def gentlest_with(known, earlier, sample, twice):
    lowered = (sample[0], loose_minus(sample[1], twice))
    found = [loose_slope(one, lowered) for one in earlier]
    if known is not None:
        found.append(known)
    return greatest(found) if len(found) > 0 else None


def steepest_with(known, earlier, sample, twice):
    raised = (sample[0], loose_plus(sample[1], twice))
    found = [loose_slope(one, raised) for one in earlier]
    if known is not None:
        found.append(known)
    return smallest(found) if len(found) > 0 else None


class Stretch:
    def __init__(self, bound):
        self.twice = plus(bound, bound)
        self.samples = []
        self.gentlest = None
        self.steepest = None

    def takes(self, sample):
        gentlest = gentlest_with(self.gentlest, self.samples, sample, self.twice)
        steepest = steepest_with(self.steepest, self.samples, sample, self.twice)
        if len(self.samples) > 0 and order(gentlest, steepest) > 0:
            return False
        self.gentlest = gentlest
        self.steepest = steepest
        self.samples.append(sample)
        return True

    def kept(self):
        return list(self.samples)

    def slopes(self):
        if len(self.samples) < 2:
            return (None, None)
        return (reduced(self.gentlest), reduced(self.steepest))

    def room(self, moment):
        if len(self.samples) < 2:
            return (None, None)
        # Behind all samples no bearing line is lower than the gentlest ones and none higher than the steepest.
        lowest = greatest([loose_along(self.gentlest, sample, moment) for sample in self.samples])
        highest = smallest([loose_along(self.steepest, sample, moment) for sample in self.samples])
        return (reduced(loose_minus(lowest, self.twice)), reduced(loose_plus(highest, self.twice)))


def stretches(samples, bound):
    told = []
    stretch = Stretch(bound)
    for sample in samples:
        if not stretch.takes(sample):
            told.append(stretch.kept())
            stretch = Stretch(bound)
            stretch.takes(sample)
    if len(samples) > 0:
        told.append(stretch.kept())
    return told
