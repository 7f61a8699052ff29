"""What several tests need: a second reckoning with Python's own fractions, and rows made from a seed."""

import math
import random
from fractions import Fraction
from itertools import combinations, product


def pair(number):
    number = Fraction(number)
    return (number.numerator, number.denominator)


def number(fraction):
    return Fraction(fraction[0], fraction[1])


def sample(moment, value):
    return (moment, pair(value))


def samples_of(values, first=0):
    return [sample(first + place, value) for place, value in enumerate(values)]


def is_lowest(fraction):
    return (
        isinstance(fraction, tuple)
        and len(fraction) == 2
        and isinstance(fraction[0], int)
        and isinstance(fraction[1], int)
        and fraction[1] >= 1
        and math.gcd(fraction[0], fraction[1]) == 1
    )


def some_fraction(source, tops=9, bottoms=6):
    return Fraction(source.randint(-tops, tops), source.randint(1, bottoms))


def some_samples(source, many, tops=9, bottoms=6, step=4):
    told = []
    moment = source.randint(-20, 20)
    for _ in range(many):
        told.append(sample(moment, some_fraction(source, tops, bottoms)))
        moment += source.randint(1, step)
    return told


def some_row(source, many, tops=9, bottoms=6, step=4):
    told = some_samples(source, many, tops, bottoms, step)
    return [(entry[0], None) if source.random() < 0.3 else entry for entry in told]


def seeded(seed):
    return random.Random(seed)


def is_piece(piece):
    """The form of a piece alone: four fractions, not backwards, one height where it is one moment."""
    if not (isinstance(piece, tuple) and len(piece) == 4 and all(is_lowest(part) for part in piece)):
        return False
    start, first, end, last = [number(part) for part in piece]
    return start < end or (start == end and first == last)


def piece_height(piece, moment):
    start, first, end, last = [number(part) for part in piece]
    return first if start == end else first + (last - first) * (moment - start) / (end - start)


def stand_of(one, mid, last):
    steep = (number(last[1]) - number(one[1])) / (last[0] - one[0])
    return number(mid[1]) - number(one[1]) - steep * (mid[0] - one[0])


def is_borne(samples, bound):
    """By the threes alone: some line bears the samples where none of their threes is pinched."""
    return not any(abs(stand_of(*three)) > 2 * number(bound) for three in combinations(samples, 3))


def is_good(samples, bound):
    """The first and the last sample are good for each other."""
    return not any(abs(stand_of(samples[0], mid, samples[-1])) > number(bound) for mid in samples[1:-1])


def fewest_parts(run, bound, is_part):
    """The fewest parts of neighbouring samples, all of them parts, tried from the right over all ways."""
    many = [0]
    for first in range(len(run) - 1, -1, -1):
        ends = [end for end in range(first + 1, len(run) + 1) if is_part(run[first:end], bound)]
        many.insert(0, 1 + min(many[end - first - 1] for end in ends))
    return many[0]


def fewest_ties(run, bound):
    """The fewest pieces from sample to sample, tried over all choices of joints, fewest first."""
    if len(run) == 1:
        return 1
    for many in range(len(run) - 1):
        for joints in combinations(range(1, len(run) - 1), many):
            ends = (0,) + joints + (len(run) - 1,)
            if all(is_good(run[one:other + 1], bound) for one, other in zip(ends, ends[1:])):
                return many + 1
    raise AssertionError("neighbours are always good for each other")


def has_answer(needs, many):
    """Whether numbers x are there with sum(c * x) <= r for all needs (c, r): one unknown goes at a time."""
    needs = set(needs)
    for place in range(many):
        kept = {need for need in needs if need[0][place] == 0}
        under = [need for need in needs if need[0][place] < 0]
        over = [need for need in needs if need[0][place] > 0]
        for (low, left), (high, right) in product(under, over):
            weight = -low[place] / high[place]
            row = tuple(one + weight * other for one, other in zip(low, high))
            kept.add(at_most(row, left + weight * right))
        needs = tightest(kept)
    return all(right >= 0 for row, right in needs)


def at_most(row, right):
    """The same need, with its first factor 1 or -1, so that like ones are seen to be like."""
    factor = next((abs(one) for one in row if one != 0), Fraction(1))
    return (tuple(one / factor for one in row), right / factor)


def tightest(needs):
    found = {}
    for row, right in needs:
        found[row] = min(right, found.get(row, right))
    return set(found.items())


def height_row(moment, place, many, sign=1):
    row = [Fraction(0)] * (2 * many)
    row[2 * place] = Fraction(sign * moment)
    row[2 * place + 1] = Fraction(sign)
    return row


def crossing(one, other, place, many, sign):
    """Needs by which the lines at a place and behind it meet from the one sample's moment to the other's."""
    ahead = [a - b for a, b in zip(height_row(one[0], place, many), height_row(one[0], place + 1, many))]
    behind = [b - a for a, b in zip(height_row(other[0], place, many), height_row(other[0], place + 1, many))]
    return [at_most([sign * part for part in row], Fraction(0)) for row in (ahead, behind)]


def hang_together(groups, bound):
    """Whether lines bear the groups of samples, each meeting the next one between its group and the next."""
    many = len(groups)
    needs = []
    for place, group in enumerate(groups):
        for moment, value in group:
            needs.append(at_most(height_row(moment, place, many), number(value) + number(bound)))
            needs.append(at_most(height_row(moment, place, many, -1), number(bound) - number(value)))
    for signs in product((1, -1), repeat=many - 1):
        more = []
        for place, sign in enumerate(signs):
            more += crossing(groups[place][-1], groups[place + 1][0], place, many, sign)
        if has_answer(needs + more, 2 * many):
            return True
    return False


def fewest_links(samples, bound):
    """The fewest lines, each meeting the next one between the samples of the two, that bear the samples."""
    for many in range(1, len(samples)):
        for cuts in combinations(range(1, len(samples)), many - 1):
            ends = (0,) + cuts + (len(samples),)
            groups = [samples[one:other] for one, other in zip(ends, ends[1:])]
            if all(is_borne(group, bound) for group in groups) and hang_together(groups, bound):
                return many
    return len(samples)


def fewest_joints(run, bound):
    """The fewest pieces that hang together anywhere. One that holds no sample's moment joins any two lines."""
    many = [-1]
    for first in range(len(run) - 1, -1, -1):
        ways = [fewest_links(run[first:end], bound) + 1 + many[end - first - 1] for end in range(first + 1, len(run) + 1)]
        many.insert(0, min(ways))
    return many[0]


FEWEST = {
    "apart": lambda run, bound: fewest_parts(run, bound, is_borne),
    "joined": fewest_joints,
    "spans": lambda run, bound: fewest_parts(run, bound, is_good),
    "chain": fewest_ties,
}
