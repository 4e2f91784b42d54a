"""Lots: rows given to the nearest of some centres, which then move to where their rows are.

A centre is a tuple of shares (number, divisor), in lowest terms, divisor above 0.
"""

from math import gcd

from asnevertold.plans import place_of


def distance(point, centre):
    """The sum of the squares of the differences: a share (number, divisor)."""
    number, divisor = 0, 1
    for cell, (part, whole) in zip(point, centre):
        off = cell * whole - part
        number = number * whole * whole + off * off * divisor
        divisor = divisor * whole * whole
    return number, divisor


def nearest(point, centres):
    """The number of the centre nearest to the point, of several the first."""
    best = 0
    number, divisor = distance(point, centres[0])
    for at, centre in enumerate(centres):
        away, whole = distance(point, centre)
        if away * divisor < number * whole:
            best, number, divisor = at, away, whole
    return best


def given(points, centres):
    """The points of each centre: a list of lists."""
    lots = [[] for centre in centres]
    for point in points:
        lots[nearest(point, centres)].append(point)
    return lots


def share(number, divisor):
    """The share in lowest terms."""
    common = gcd(number, divisor)
    return number // common, divisor // common


def centre_of(lot, centre):
    """Where the lot's points are on the whole; without any the centre stays."""
    if not lot:
        return centre
    return tuple([share(sum(cells), len(lot)) for cells in zip(*lot)])


def learn_lots(columns, rows, model):
    """The centres, and how many rows each was given, of the begins and of each move."""
    names, begins, moves = model[1:]
    places = [place_of(columns, name) for name in names]
    cells = [tuple([row[place] for place in places]) for row in rows]
    points = [point for point in cells if None not in point]
    centres = tuple([tuple([(worth, 1) for worth in begin]) for begin in begins])
    told = [(centres, ())]
    for _ in range(moves):
        lots = given(points, centres)
        centres = tuple([centre_of(lot, centre) for lot, centre in zip(lots, centres)])
        told.append((centres, tuple([len(lot) for lot in lots])))
    return told
