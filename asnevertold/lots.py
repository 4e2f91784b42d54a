"""Lots: rows given to the nearest of some centres, which then move to where their rows are.

A centre is a tuple of shares (number, divisor), in lowest terms, divisor above 0. Points are a dict from tuples of
numbers to how many rows have them.
"""

from math import gcd, lcm

from asnevertold.plans import place_of


def share(number, divisor):
    """The share in lowest terms."""
    common = gcd(number, divisor)
    return number // common, divisor // common


def levelled(centres):
    """Tuples (numbers, the squares' sum) of centres, so many times as great that all are whole; and how many times."""
    whole = 1
    for centre in centres:
        for number, divisor in centre:
            whole = lcm(whole, divisor)
    told = []
    for centre in centres:
        numbers = [number * (whole // divisor) for number, divisor in centre]
        told.append((numbers, sum([number * number for number in numbers])))
    return told, whole


def nearest(point, whole, level):
    """The number of the levelled centre nearest to the point, of several the first."""
    best, least = 0, None
    twice = [2 * whole * cell for cell in point]
    for at, (numbers, squares) in enumerate(level):
        # The squares' sum of the differences, less the point's own squares, which are the same for all centres.
        away = squares
        for cell, number in zip(twice, numbers):
            away -= cell * number
        if least is None or away < least:
            best, least = at, away
    return best


def moved(points, centres):
    """Where the centres move to, and how many rows each was given; one without rows stays."""
    level, whole = levelled(centres)
    sums = [[0] * len(centre) for centre in centres]
    manys = [0] * len(centres)
    for point, many in points.items():
        at = nearest(point, whole, level)
        manys[at] += many
        sums[at] = [total + many * cell for total, cell in zip(sums[at], point)]
    told = []
    for centre, totals, many in zip(centres, sums, manys):
        told.append(tuple([share(total, many) for total in totals]) if many else centre)
    return tuple(told), tuple(manys)


def points_of(rows, places):
    """The points at the places of those rows that have numbers at all of them."""
    points = {}
    for row in rows:
        point = tuple([row[place] for place in places])
        if None not in point:
            points[point] = points.get(point, 0) + 1
    return points


def learn_lots(columns, rows, model):
    """The centres, and how many rows each was given, of the begins and of each move."""
    names, begins, moves = model[1:]
    points = points_of(rows, [place_of(columns, name) for name in names])
    told = [(tuple([tuple([(worth, 1) for worth in begin]) for begin in begins]), ())]
    for _ in range(moves):
        move = moved(points, told[-1][0])
        if move[0] == told[-1][0]:
            # Centres that stay are given the same rows again and again.
            return told + [move] * (moves + 1 - len(told))
        told.append(move)
    return told
