"""Shares and pairs: how often cells stand in rows, alone and beside one another."""

from asnevertold.plans import place_of


def counts_of(things):
    """How often each of the things is there: a dict."""
    counts = {}
    for thing in things:
        counts[thing] = counts.get(thing, 0) + 1
    return counts


def learn_shares(columns, rows, model):
    """The shares: tuples (cell, many, all), sorted."""
    place = place_of(columns, model[1])
    cells = [row[place] for row in rows if row[place] is not None]
    return [(cell, many, len(cells)) for cell, many in sorted(counts_of(cells).items())]


def pairs_of(columns, rows, one, other, fewest):
    """The pairs of these two columns: tuples (column, cell, other, cell, many), sorted by the cells."""
    place = place_of(columns, one)
    away = place_of(columns, other)
    cells = [(row[place], row[away]) for row in rows if row[place] is not None and row[away] is not None]
    counts = sorted(counts_of(cells).items())
    return [(one, cell, other, beside, many) for (cell, beside), many in counts if many >= fewest]


def learn_pairs(columns, rows, model):
    """The pairs of all two of the model's columns, in the order of their places there."""
    names, fewest = model[1:]
    told = []
    for place, one in enumerate(names):
        for other in names[place + 1:]:
            told.extend(pairs_of(columns, rows, one, other, fewest))
    return told
