"""Fractions: tuples (top, bottom) in lowest terms, the bottom from 1 on.

A quotient is a tuple (top, bottom) with a bottom from 1 on that need not be in lowest terms. To bring large
numbers to lowest terms costs far more than to multiply them; so what is only compared stays a quotient (the
defs called loose_ tell such ones), and what is told is reduced once. Every fraction is a quotient; order and
size take any quotients.
"""

from lath.errors import NoRatio

HEAD = 256


def plain_divisor(one, other):
    found = one
    rest = other
    while rest != 0:
        left = found % rest
        found = rest
        rest = left
    return found


def steps_of_heads(high, low):
    # The steps of Euclid's way with two numbers of at most HEAD bits, put together: the four factors with which
    # the last two numbers come from these two. It stops half way, where the heads still tell the steps well.
    ahead = (1, 0)
    now = (0, 1)
    while low.bit_length() > HEAD // 2:
        many = high // low
        left = high - many * low
        high = low
        low = left
        behind = (ahead[0] - many * now[0], ahead[1] - many * now[1])
        ahead = now
        now = behind
    return ahead + now


def divisor(one, other):
    # Of large numbers the heads alone are looked at for many steps, and the numbers are then brought to where
    # these lead at once. Each step takes one number some times from the other, so whichever steps the heads
    # tell, the same numbers divide both behind them as ahead.
    found = max(abs(one), abs(other))
    rest = min(abs(one), abs(other))
    while rest.bit_length() > HEAD:
        tail = found.bit_length() - HEAD
        steps = steps_of_heads(found >> tail, rest >> tail)
        if steps[1] == 0:
            steps = (0, 1, 1, -(found // rest))
        ahead = abs(steps[0] * found + steps[1] * rest)
        now = abs(steps[2] * found + steps[3] * rest)
        found = max(ahead, now)
        rest = min(ahead, now)
    return plain_divisor(found, rest)


def is_fraction(pair):
    return pair[1] >= 1 and divisor(pair[0], pair[1]) == 1


def ratio(top, bottom):
    if bottom == 0:
        raise NoRatio("the bottom is nought")
    shared = divisor(top, bottom)
    if bottom < 0:
        shared = -shared
    return (top // shared, bottom // shared)


def reduced(quotient):
    return ratio(quotient[0], quotient[1])


def loose_plus(one, other):
    return (one[0] * other[1] + other[0] * one[1], one[1] * other[1])


def loose_minus(one, other):
    return (one[0] * other[1] - other[0] * one[1], one[1] * other[1])


def loose_times(one, other):
    return (one[0] * other[0], one[1] * other[1])


def plus(one, other):
    return reduced(loose_plus(one, other))


def minus(one, other):
    return reduced(loose_minus(one, other))


def times(one, other):
    return reduced(loose_times(one, other))


def over(one, other):
    # Where the second one is nought the new bottom is 0, and ratio refuses it.
    return ratio(one[0] * other[1], one[1] * other[0])


def order(one, other):
    left = one[0] * other[1]
    right = other[0] * one[1]
    if left < right:
        return -1
    if left > right:
        return 1
    return 0


def size(one):
    return (abs(one[0]), one[1])


def opposite(one):
    return (-one[0], one[1])


def greatest(quotients):
    found = quotients[0]
    for quotient in quotients:
        if order(quotient, found) > 0:
            found = quotient
    return found


def smallest(quotients):
    found = quotients[0]
    for quotient in quotients:
        if order(quotient, found) < 0:
            found = quotient
    return found
