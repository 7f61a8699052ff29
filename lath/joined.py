"""The way "joined": each run by itself, by pieces that hang together and whose joints lie anywhere."""

from lath.bends import Bend
from lath.lines import height, meet
from lath.rows import runs


def links_of(run, bound):
    bend = Bend(bound)
    links = []
    threes = []
    for sample in run:
        ended = bend.take(sample)
        if ended is not None:
            links.append(ended[0])
            threes.append(ended[1])
    links.append(bend.line_now())
    return (links, threes)


def point_on(line, moment):
    return ((moment, 1), height(line, (moment, 1)))


def pieces_along(links, first, last):
    points = [point_on(links[0], first)]
    points.extend([meet(line, behind) for line, behind in zip(links, links[1:])])
    points.append(point_on(links[-1], last))
    return [start + end for start, end in zip(points, points[1:])]


def joined(row, bound):
    telling = []
    paper = []
    for run in runs(row):
        found = links_of(run, bound)
        telling.extend(pieces_along(found[0], run[0][0], run[-1][0]))
        paper.extend(found[1])
    return (telling, paper)
