"""Rows: lists of samples (moment, fraction) and gap marks (moment, None), the moments rising strictly."""

from lath.errors import NotARow
from lath.ratios import is_fraction, loose_plus, loose_times, reduced

MOST = 40


def is_wrong(row, place):
    if place >= MOST:
        return True
    if place > 0 and row[place][0] <= row[place - 1][0]:
        return True
    value = row[place][1]
    return value is not None and not is_fraction(value)


def checked(row):
    for place in range(len(row)):
        if is_wrong(row, place):
            raise NotARow(place)
    return list(row)


def runs(row):
    told = []
    run = []
    for entry in row:
        if entry[1] is not None:
            run.append(entry)
        elif len(run) > 0:
            told.append(run)
            run = []
    if len(run) > 0:
        told.append(run)
    return told


def all_samples(row):
    return [entry for entry in row if entry[1] is not None]


def lifted(sample, slope, height):
    lift = loose_plus(loose_times(slope, (sample[0], 1)), height)
    return (sample[0], reduced(loose_plus(sample[1], lift)))


def tilted(row, slope, height):
    return [entry if entry[1] is None else lifted(entry, slope, height) for entry in row]


def turned(row):
    return [(-entry[0], entry[1]) for entry in reversed(row)]
