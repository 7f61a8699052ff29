"""What a paper shows: a number of pieces below which no telling of a row within a bound can go."""

from lath.ratios import loose_plus, order, size
from lath.rows import runs
from lath.threes import kind, loose_stand

# Known tells of each moment of some runs the tuple (place of its run, sample). A three is good where the size of
# its stand is beyond the limit: twice the bound, or by "spans" and "chain" the bound.


def known_of(found):
    known = {}
    for place, run in enumerate(found):
        for sample in run:
            known[sample[0]] = (place, sample)
    return known


def samples_of_three(known, three):
    if three[0] >= three[1] or three[1] >= three[2]:
        return None
    found = [known[moment] for moment in three if moment in known]
    if len(found) < 3 or found[0][0] != found[1][0] or found[1][0] != found[2][0]:
        return None
    return [pair[1] for pair in found]


def is_good(known, three, limit, at):
    found = samples_of_three(known, three)
    if found is None:
        return False
    stood = size(loose_stand(found[0], found[1], found[2]))
    beyond = order(stood, limit)
    return stood[0] > 0 and (beyond > 0 or (at and beyond == 0))


def kind_of(known, three):
    found = samples_of_three(known, three)
    return kind(found[0], found[1], found[2])


def lie_apart(threes):
    return all([behind[0] >= three[2] for three, behind in zip(threes, threes[1:])])


def pieces_by_threes(row, way, bound, paper, at):
    found = runs(row)
    known = known_of(found)
    limit = loose_plus(bound, bound)
    if not all([is_good(known, three, limit, at) for three in paper]):
        return None
    if way == "apart":
        lists = [paper]
    else:
        kinds = [kind_of(known, three) for three in paper]
        lists = [[three for three, told in zip(paper, kinds) if told == one] for one in ("cap", "cup")]
    if not all([lie_apart(threes) for threes in lists]):
        return None
    return len(found) + len(paper)


def barred_pairs(run, numbers, tied):
    # The outer moments of the threes that must be there, as the numbers rise by more than one piece can lead.
    found = []
    for first in range(len(numbers)):
        for last in range(first + 1, len(numbers)):
            if numbers[last] > numbers[first] + 1:
                found.append((run[first][0], run[last if tied else last - 1][0]))
    return found


def pieces_of_run(run, tied, bound, part, at):
    numbers = part[0]
    if len(numbers) != (len(run) if tied else len(run) + 1) or numbers[0] > 0:
        return None
    known = known_of([run])
    good = {}
    for three in part[1]:
        if is_good(known, three, bound, at):
            good[(three[0], three[2])] = True
    if not all([outer in good for outer in barred_pairs(run, numbers, tied)]):
        return None
    return max(1, numbers[-1])


def pieces_by_numbers(row, way, bound, paper, at):
    found = runs(row)
    if len(found) != len(paper):
        return None
    shown = [pieces_of_run(run, way == "chain", bound, part, at) for run, part in zip(found, paper)]
    return None if None in shown else sum(shown)


def shows(row, way, bound, number, paper, at=False):
    if way == "spans" or way == "chain":
        shown = pieces_by_numbers(row, way, bound, paper, at)
    else:
        shown = pieces_by_threes(row, way, bound, paper, at)
    return shown is not None and shown >= number
