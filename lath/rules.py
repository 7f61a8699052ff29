"""Rules: what each answers of a row, and a row with the fewest samples on which two of them answer unlike."""

from lath.errors import NoPair
from lath.least import least
from lath.ratios import greatest, opposite, plus
from lath.tell import many


def answer(rule, row):
    if rule[0] == "fewest":
        return many(row, rule[1], rule[2])
    return least(row, rule[1], rule[2])[0]


def row_of(values):
    return [(moment, value) for moment, value in enumerate(values)]


def wave(values, samples):
    return row_of([values[place % len(values)] for place in range(samples)])


def reach(rule):
    # The greatest stand of three samples that one piece bears. By all ways fewer samples are one piece a run.
    if rule[1] == "apart" or rule[1] == "joined":
        return plus(rule[2], rule[2])
    return rule[2]


def rows_for_fewest(rule, other):
    # Unlike reaches part on three samples, and like ones part on none. On four samples with the same reach: "joined"
    # and "chain" need a third piece for a steep zigzag, "apart" and "spans" do not; samples that stand off by the
    # reach to both sides are one piece by "spans" and "chain" alone, if it is above nought; and if it is nought,
    # "joined" spares a piece over "chain", as its joints lie anywhere. "apart" and "spans" with nought are one rule:
    # a stretch is then borne where all its samples lie on one line.
    far = greatest([reach(rule), reach(other)])
    steep = plus(plus(far, far), (1, 1))
    return [
        row_of([(0, 1), far, (0, 1)]),
        row_of([(0, 1), steep, (0, 1), steep]),
        row_of([(0, 1), far, opposite(far), (0, 1)]),
        row_of([(0, 1), (1, 1), (1, 1), (0, 1)]),
    ]


def samples_without_miss(rule):
    # Of so many samples, whatever they are, the pieces miss none. A zigzag with one more they do miss.
    if rule[1] == "apart" or rule[1] == "spans":
        return 2 * rule[2]
    return rule[2] + 1


def rows_for_least(rule, other):
    # A zigzag of one sample more than either tells without a miss parts rules unless both begin to miss there: it is
    # missed by 1/2 by "apart" and "joined", by 2/3 or more by "spans" and "chain". Where the one is "apart" or
    # "spans" and the other "joined" or "chain" (with one piece less than twice as many), the slower wave parts them:
    # each three from an even place is bent, but the neighbouring ones not all to one side, and those from odd places
    # lie on one line; so the ways that hang together miss nothing. With one piece each, which is the same piece,
    # nothing parts them.
    samples = min(samples_without_miss(rule), samples_without_miss(other)) + 1
    return [wave([(0, 1), (1, 1)], samples), wave([(0, 1), (1, 1), (0, 1), (-1, 1)], samples)]


def parting(rule, other):
    if rule[0] != other[0]:
        raise NoPair("the rules are of unlike kinds")
    rows = rows_for_fewest(rule, other) if rule[0] == "fewest" else rows_for_least(rule, other)
    for row in rows:
        if answer(rule, row) != answer(other, row):
            return row
    return None
