"""What several tests need: a second reckoning with Python's own fractions, and rows made from a seed."""

import math
import random
from fractions import Fraction


def pair(number):
    number = Fraction(number)
    return (number.numerator, number.denominator)


def number(fraction):
    return Fraction(fraction[0], fraction[1])


def sample(moment, value):
    return (moment, pair(value))


def samples_of(values, first=0):
    return [sample(first + place, value) for place, value in enumerate(values)]


def is_lowest(fraction):
    return (
        isinstance(fraction, tuple)
        and len(fraction) == 2
        and isinstance(fraction[0], int)
        and isinstance(fraction[1], int)
        and fraction[1] >= 1
        and math.gcd(fraction[0], fraction[1]) == 1
    )


def some_fraction(source, tops=9, bottoms=6):
    return Fraction(source.randint(-tops, tops), source.randint(1, bottoms))


def some_samples(source, many, tops=9, bottoms=6, step=4):
    told = []
    moment = source.randint(-20, 20)
    for _ in range(many):
        told.append(sample(moment, some_fraction(source, tops, bottoms)))
        moment += source.randint(1, step)
    return told


def some_row(source, many):
    told = some_samples(source, many)
    return [(entry[0], None) if source.random() < 0.3 else entry for entry in told]


def seeded(seed):
    return random.Random(seed)
