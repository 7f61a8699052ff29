"""Whether a list of pieces is a telling of a row by a way, and how far it misses the row's samples."""

from lath.ratios import greatest, loose_minus, loose_plus, loose_times, order, reduced, size
from lath.rows import runs

# A part is a tuple (samples, piece) of a piece and the samples of its run whose moments it has.


def moment_of(sample):
    return (sample[0], 1)


def parts_lying_apart(run, pieces):
    moments = [moment_of(sample) for sample in run]
    found = []
    first = 0
    while first < len(run):
        if len(found) == len(pieces):
            return None
        piece = pieces[len(found)]
        if piece[0] != moments[first] or piece[2] not in moments[first:]:
            return None
        behind = moments.index(piece[2]) + 1
        found.append((run[first:behind], piece))
        first = behind
    return found


def part_of_one(run, pieces):
    when = moment_of(run[0])
    if len(pieces) == 0 or pieces[0][0] != when or pieces[0][2] != when:
        return None
    return [(run, pieces[0])]


def held_by(run, piece):
    behind = [sample for sample in run if order(piece[0], moment_of(sample)) <= 0]
    return [sample for sample in behind if order(moment_of(sample), piece[2]) <= 0]


def parts_hanging_together(run, pieces):
    if len(run) == 1:
        return part_of_one(run, pieces)
    end = moment_of(run[-1])
    found = []
    for piece in pieces:
        if len(found) == 0 and piece[0] != moment_of(run[0]):
            return None
        if len(found) > 0 and piece[:2] != found[-1][1][2:]:
            return None
        if order(piece[0], piece[2]) >= 0 or order(piece[2], end) > 0:
            return None
        found.append((held_by(run, piece), piece))
        if piece[2] == end:
            return found
    return None


def has_one_height(piece):
    return piece[0] != piece[2] or piece[1] == piece[3]


def ends_on_samples(run, piece):
    points = [(moment_of(sample), sample[1]) for sample in run]
    return piece[:2] in points and piece[2:] in points


def parts_of_run(run, way, pieces):
    if way == "joined" or way == "chain":
        found = parts_hanging_together(run, pieces)
    else:
        found = parts_lying_apart(run, pieces)
    if found is None or not all([has_one_height(part[1]) for part in found]):
        return None
    if way == "spans" or way == "chain":
        if not all([ends_on_samples(run, part[1]) for part in found]):
            return None
    return found


def parts_of_row(row, way, telling):
    found = []
    for run in runs(row):
        more = parts_of_run(run, way, telling[len(found):])
        if more is None:
            return None
        found.extend(more)
    return found if len(found) == len(telling) else None


def loose_height_on(piece, when):
    if piece[0] == piece[2]:
        return piece[1]
    rise = loose_minus(piece[3], piece[1])
    step = loose_minus(piece[2], piece[0])
    part = loose_times(loose_minus(when, piece[0]), (step[1], step[0]))
    return loose_plus(piece[1], loose_times(rise, part))


def loose_misses(part):
    return [size(loose_minus(sample[1], loose_height_on(part[1], moment_of(sample)))) for sample in part[0]]


def miss(row, way, telling):
    found = parts_of_row(row, way, telling)
    if found is None:
        return None
    misses = [(0, 1)]
    for part in found:
        misses.extend(loose_misses(part))
    return reduced(greatest(misses))


def fits(row, way, bound, telling):
    found = miss(row, way, telling)
    return found is not None and order(found, bound) <= 0
