"""The way "apart": each run by itself, one piece for each of its stretches, along the stretch's best line."""

from lath.best import best
from lath.lines import height
from lath.rows import runs
from lath.stretches import stretches


def piece_along(line, first, last):
    return ((first, 1), height(line, (first, 1)), (last, 1), height(line, (last, 1)))


def best_piece(stretch):
    return piece_along(best(stretch)[0], stretch[0][0], stretch[-1][0])


def ending_three(stretch, behind):
    # The three that forces the best line of all these is pinched beyond the bound, as no line bears them; and
    # as some line bears the stretch, the sample behind it is one of the three, the last one.
    samples = stretch + [behind]
    return tuple([samples[place][0] for place in best(samples)[2]])


def apart(row, bound):
    telling = []
    paper = []
    for run in runs(row):
        parts = stretches(run, bound)
        telling.extend([best_piece(stretch) for stretch in parts])
        paper.extend([ending_three(stretch, behind[0]) for stretch, behind in zip(parts, parts[1:])])
    return (telling, paper)
