"""The ways "spans" and "chain": pieces from sample to sample, apart ("spans") or hanging together ("chain")."""

from lath.chords import bars_by, labels_by, leaps
from lath.rows import runs


def places_of_pieces(found, told):
    # Back from the last label, each time by the earliest piece that leads from a label less by 1.
    pairs = []
    place = len(told) - 1
    while place > 0:
        ahead = [first for first in range(place) if told[first] + 1 == told[place] and place in found[first]]
        pairs.append((ahead[0], place))
        place = ahead[0]
    pairs.reverse()
    return pairs


def piece_between(one, other):
    return ((one[0], 1), one[1], (other[0], 1), other[1])


def tied_run(run, bound, tied):
    found = leaps(run, bound, tied)
    told = labels_by(found, len(run) if tied else len(run) + 1)
    pairs = places_of_pieces(found, told)
    if tied and len(run) == 1:
        pairs = [(0, 0)]
    back = 0 if tied else 1
    pieces = [piece_between(run[first], run[last - back]) for first, last in pairs]
    return (pieces, (told, bars_by(run, told, tied)))


def tied_row(row, bound, tied):
    telling = []
    paper = []
    for run in runs(row):
        told = tied_run(run, bound, tied)
        telling.extend(told[0])
        paper.append(told[1])
    return (telling, paper)


def spans(row, bound):
    return tied_row(row, bound, False)


def chain(row, bound):
    return tied_row(row, bound, True)
