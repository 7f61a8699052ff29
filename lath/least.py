"""The least miss that a telling of at most so many pieces has, such a telling, and the paper that shows it."""

from lath.chords import labels_by, loose_farthest
from lath.errors import TooFew
from lath.peaks import Watch
from lath.ratios import order, reduced
from lath.rows import checked, runs
from lath.tell import check_way, fewest

# The least miss is nought or the worth of some three: by "apart" and "joined" half the size of its stand, by "spans"
# and "chain" all of it. So it is sought among these sizes alone. A size is enough where, with threes beyond it
# barred, there is a telling of at most so many pieces.


def narrowed(sizes, ends, is_enough):
    # The ends are a size that is not enough and one that is (None while none is known). Told are the greatest and
    # the least such ones, of the ends and the sizes.
    low = ends[0]
    high = ends[1]
    left = [one for one in sizes if order(one, low) > 0 and (high is None or order(one, high) < 0)]
    while len(left) > 0:
        pivot = left[len(left) // 2]
        if is_enough(pivot):
            high = pivot
            left = [one for one in left if order(one, pivot) < 0]
        else:
            low = pivot
            left = [one for one in left if order(one, pivot) > 0]
    return (low, high)


def check_most(row, most):
    if most < len(runs(row)):
        raise TooFew("each run needs a piece")


def watches_of(row, way):
    # By "apart" threes of both kinds stand in one list, by "joined" caps in one and cups in another.
    lists = [(1, -1)] if way == "apart" else [(1,), (-1,)]
    watches = []
    for run in runs(row):
        watches.extend([Watch(run, signs) for signs in lists])
    return watches


def all_threes(watches, limit, most, at):
    found = []
    for watch in watches:
        found.extend(watch.threes_beyond(limit, most - len(found), at))
    return found


def least_limit(watches, is_enough):
    # The threes beyond the limit that is sought are followed without it: from each place on, the sizes are known to
    # be enough or not, and the next three ends where the first one is. Had none of them just the limit's size, all
    # would be the same with a somewhat lesser limit.
    ends = ((0, 1), None)
    for watch in watches:
        first = 0
        while first is not None:
            ends = narrowed([one[0] for one in watch.strongest_behind(first)], ends, is_enough)
            ended = watch.ending_beyond(first, ends[0], False)
            first = None if ended is None else ended[0]
    return ends[1]


def least_by_threes(row, way, most):
    watches = watches_of(row, way)
    needed = most + 1 - len(runs(row))
    is_enough = lambda limit: len(all_threes(watches, limit, needed, False)) < needed
    if is_enough((0, 1)):
        return ((0, 1), [])
    limit = least_limit(watches, is_enough)
    return (reduced((limit[0], 2 * limit[1])), all_threes(watches, limit, needed, True))


def misses_of(run):
    # For each place the tuples (place behind, miss) of the chords that lead from it.
    found = []
    for first in range(len(run)):
        chords = [(last, loose_farthest(run, first, last)) for last in range(first + 1, len(run))]
        found.append([(last, (0, 1) if far is None else far[1]) for last, far in chords])
    return found


def pieces_within(misses, limit, tied):
    back = 0 if tied else 1
    found = []
    for first, chords in enumerate(misses):
        good = [last + back for last, miss in chords if order(miss, limit) <= 0]
        found.append(good if tied else [first + 1] + good)
    return max(1, labels_by(found, len(misses) + back)[-1])


def least_by_chords(row, way, most):
    tables = [misses_of(run) for run in runs(row)]
    tied = way == "chain"
    is_enough = lambda limit: sum([pieces_within(misses, limit, tied) for misses in tables]) <= most
    if is_enough((0, 1)):
        return ((0, 1), [])
    sizes = []
    for misses in tables:
        for chords in misses:
            sizes.extend([chord[1] for chord in chords])
    # Between the two no miss lies: what is barred beyond the low one has the high one as its miss, or a greater.
    found = narrowed(sizes, ((0, 1), None), is_enough)
    return (reduced(found[1]), fewest(row, way, reduced(found[0]))[1])


def least(row, way, most):
    check_way(way)
    held = checked(row)
    check_most(held, most)
    if way == "apart" or way == "joined":
        found = least_by_threes(held, way, most)
    else:
        found = least_by_chords(held, way, most)
    return (found[0], fewest(held, way, found[0])[0], found[1])
