"""Trees: splits of rows by the numbers of some columns, each the one that costs least, by exact shares.

The cost of a lot is how many rows it has less its evenness, the sum of the squares of its counts divided by
how many it has. All lots of one node have as many rows together, so the split that costs least is the one
with the greatest evenness, and evenness is what is reckoned here: shares (number, divisor), divisor above 0.
Rows are told as tuples here: the cell that is counted, then those of the columns that may split them.
"""

from asnevertold.plans import place_of
from asnevertold.shares import counts_of


def squares(counts):
    """The sum of the squares of the counts."""
    return sum([many * many for many in counts.values()])


def counts_by_number(rows, at):
    """The counts of those rows that have a number there, by these: a sorted list of (number, counts)."""
    told = {}
    for row in rows:
        if row[at] is not None:
            counts = told.setdefault(row[at], {})
            counts[row[0]] = counts.get(row[0], 0) + 1
    return sorted(told.items(), key=lambda pair: pair[0])


def tried_splits(rows, counts, at):
    """All splits by the numbers there that leave rows on both sides: tuples (number, divisor, worth), worths rising."""
    one, other = {}, dict(counts)
    even, odd = 0, squares(counts)
    many, left = 0, len(rows)
    told = []
    for worth, there in counts_by_number(rows, at):
        for cell, more in there.items():
            # Those with this worth come from the other side to this one.
            even += more * (2 * one.get(cell, 0) + more)
            odd -= more * (2 * other[cell] - more)
            one[cell] = one.get(cell, 0) + more
            other[cell] -= more
            many += more
            left -= more
        if left > 0:
            told.append((even * left + odd * many, many * left, worth))
    return told


def best_split(rows, counts, columns):
    """The split (place, worth) that costs least, if that is less than the lot's, else None."""
    if len(counts) < 2:
        # Nothing is more even than rows that are all alike.
        return None
    best = None
    number, divisor = squares(counts), len(rows)
    for at in range(1, len(columns) + 1):
        for tried, whole, worth in tried_splits(rows, counts, at):
            # Only what is better goes ahead of an earlier column, or of a lesser worth.
            if tried * divisor > number * whole:
                best, number, divisor = (at, worth), tried, whole
    return best


def node_of(rows, columns, deep):
    """The node of these rows, with at most deep splits above one another."""
    counts = counts_of([row[0] for row in rows])
    told = tuple(sorted(counts.items()))
    split = best_split(rows, counts, columns) if deep > 0 else None
    if split is None:
        return ("leaf", told)
    at, worth = split
    one = [row for row in rows if row[at] is not None and row[at] <= worth]
    other = [row for row in rows if row[at] is None or row[at] > worth]
    below = [node_of(part, columns, deep - 1) for part in (one, other)]
    return ("split", told, columns[at - 1], worth, *below)


def learn_tree(columns, rows, model):
    """The tree's root."""
    column, names, deep = model[1:]
    place = place_of(columns, column)
    places = [place, *[place_of(columns, name) for name in names]]
    return node_of([tuple([row[at] for at in places]) for row in rows if row[place] is not None], names, deep)


def nodes_by_way(node, way):
    """A dict from ways, texts of o and x, to the nodes there, without those below them."""
    told = {way: node[:4]}
    if node[0] == "split":
        told.update(nodes_by_way(node[4], way + "o"))
        told.update(nodes_by_way(node[5], way + "x"))
    return told
