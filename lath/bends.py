"""Links: the lines that the pieces of one run lie along when they hang together, found from the left."""

from lath.lines import line_by, loose_along, loose_off
from lath.ratios import greatest, loose_minus, loose_plus, opposite, order, plus, reduced, smallest
from lath.stretches import gentlest_with, steepest_with


def is_steeper(one, other):
    return one is not None and other is not None and order(one, other) > 0


def touched(samples, line, lift):
    return [sample for sample in samples if order(loose_off(line, sample), lift) == 0]


class Bend:
    # The samples below hold the link under way from below, with their low ends; those above from above, with
    # their high ends. A low end forbids slopes with the high ends ahead of it (they are too gentle) and with
    # those behind it (too steep); so there is no gentlest line while no low end lies behind a high end.

    def __init__(self, bound):
        self.bound = bound
        self.twice = plus(bound, bound)
        self.below = []
        self.above = []
        self.gentlest = None
        self.steepest = None

    def take(self, sample):
        gentlest = gentlest_with(self.gentlest, self.above, sample, self.twice)
        steepest = steepest_with(self.steepest, self.below, sample, self.twice)
        # The gentlest line is the lowest one at this sample, the steepest line the highest.
        if is_steeper(self.gentlest, steepest):
            return self.ended_in_cap(sample)
        if is_steeper(gentlest, self.steepest):
            return self.ended_in_cup(sample)
        self.gentlest = gentlest
        self.steepest = steepest
        self.below.append(sample)
        self.above.append(sample)
        return None

    def ended_in_cap(self, sample):
        line = self.line_of(self.gentlest)
        first = touched(self.above, line, opposite(self.bound))[0]
        mid = touched(self.below, line, self.bound)[-1]
        self.below = [other for other in self.below if other[0] >= mid[0]]
        self.steepest = steepest_with(None, self.below, sample, self.twice)
        self.gentlest = None
        self.below.append(sample)
        self.above = [sample]
        return (line, (first[0], mid[0], sample[0]))

    def ended_in_cup(self, sample):
        line = self.line_of(self.steepest)
        first = touched(self.below, line, self.bound)[0]
        mid = touched(self.above, line, opposite(self.bound))[-1]
        self.above = [other for other in self.above if other[0] >= mid[0]]
        self.gentlest = gentlest_with(None, self.above, sample, self.twice)
        self.steepest = None
        self.above.append(sample)
        self.below = [sample]
        return (line, (first[0], mid[0], sample[0]))

    def line_of(self, steep):
        # Of the gentlest slope, and of the steepest, just one line is held; it touches some low end.
        told = reduced(steep)
        lows = [loose_minus(loose_along(told, sample, 0), self.bound) for sample in self.below]
        return (told, reduced(greatest(lows)))

    def line_now(self):
        if len(self.below) == 0:
            return None
        if self.gentlest is not None:
            return self.line_of(self.gentlest)
        if self.steepest is not None:
            return self.line_of(self.steepest)
        return line_by((0, 1), self.below[0])

    def room(self, moment):
        return (self.lowest_room(moment), self.highest_room(moment))

    def lowest_room(self, moment):
        if self.gentlest is None:
            return None
        lines = [loose_along(self.gentlest, sample, moment) for sample in self.below]
        return reduced(loose_minus(greatest(lines), self.twice))

    def highest_room(self, moment):
        if self.steepest is None:
            return None
        lines = [loose_along(self.steepest, sample, moment) for sample in self.above]
        return reduced(loose_plus(smallest(lines), self.twice))
