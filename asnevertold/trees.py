"""Trees: splits of rows by the numbers of some columns, each the one that costs least, by exact shares.

The cost of a lot is how many rows it has less its evenness, the sum of the squares of its counts divided by
how many it has. All lots of one node have as many rows together, so the split that costs least is the one
with the greatest evenness, and evenness is what is reckoned here: shares (number, divisor), divisor above 0.
"""

from asnevertold.plans import place_of
from asnevertold.shares import counts_of


def counts_at(rows, place):
    """How often each cell stands at the place: a sorted tuple of (cell, many)."""
    return tuple(sorted(counts_of([row[place] for row in rows]).items()))


def evenness(rows, place):
    """The sum of the squares of the lot's counts, and how many rows it has."""
    return sum([many * many for cell, many in counts_at(rows, place)]), len(rows)


def evenness_of_both(one, other, place):
    """The evenness of both lots together."""
    number, divisor = evenness(one, place)
    more, whole = evenness(other, place)
    return number * whole + more * divisor, divisor * whole


def parted(rows, at, worth):
    """The rows whose cell there is at most worth, and all others."""
    one = [row for row in rows if row[at] is not None and row[at] <= worth]
    other = [row for row in rows if row[at] is None or row[at] > worth]
    return one, other


def best_split(rows, place, splits):
    """The split (column, its place, worth) that costs least, if that is less than the lot's, else None."""
    best = None
    number, divisor = evenness(rows, place)
    for name, at in splits:
        for worth in sorted(set([row[at] for row in rows if row[at] is not None])):
            one, other = parted(rows, at, worth)
            if not other:
                continue
            tried, whole = evenness_of_both(one, other, place)
            # Only what is better goes ahead of an earlier column, or of a lesser worth.
            if tried * divisor > number * whole:
                best, number, divisor = (name, at, worth), tried, whole
    return best


def node_of(rows, place, splits, deep):
    """The node of these rows, with at most deep splits above one another."""
    counts = counts_at(rows, place)
    split = best_split(rows, place, splits) if deep > 0 else None
    if split is None:
        return ("leaf", counts)
    name, at, worth = split
    one, other = parted(rows, at, worth)
    below = [node_of(part, place, splits, deep - 1) for part in (one, other)]
    return ("split", counts, name, worth, *below)


def learn_tree(columns, rows, model):
    """The tree's root."""
    column, names, deep = model[1:]
    place = place_of(columns, column)
    splits = [(name, place_of(columns, name)) for name in names]
    return node_of([row for row in rows if row[place] is not None], place, splits, deep)


def nodes_by_way(node, way):
    """A dict from ways, texts of o and x, to the nodes there, without those below them."""
    told = {way: node[:4]}
    if node[0] == "split":
        told.update(nodes_by_way(node[4], way + "o"))
        told.update(nodes_by_way(node[5], way + "x"))
    return told
