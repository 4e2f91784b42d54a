"""The weights of a sum: how often each cell of the tables' rows stands in it, less taken off.

A cell is a tuple (key, column), weights are a dict from cells to whole numbers. Known is a dict from names to
their columns, as plans tells them. Of a name's column a dict from threads of its rows to the weights of their
cells is made, of those of the columns that it comes of.
"""

from asnevertold.errors import NoColumn, NoSum
from asnevertold.plans import kind_of, known_columns, look_at_name, place_of
from asnevertold.tables import persons_of


def comes_of(known, deriving, column):
    """The tuples (source, column) that a deriving's column comes of straight, none where it doesn't."""
    word, source = deriving[:2]
    if word == "group":
        return [(source, deriving[4])] if column == "sum" and deriving[3] == "sum" else []
    if word == "more" and column == deriving[2]:
        return [(source, deriving[3]), (source, deriving[5])]
    if word == "window" and column == "window":
        return [(source, deriving[5])]
    if word == "both":
        return [(source, column), (deriving[2], column)]
    if word in ("join", "outer") and kind_of(known[source], column) is None:
        return [(deriving[2], column)]
    return [(source, column)]


def is_straight(known, derivings, name, column):
    """Whether a column of the name, or of a table, is one of which sums go out."""
    if kind_of(known[name], column) != "number":
        return False
    if name not in derivings:
        return True
    pairs = comes_of(known, derivings[name], column)
    return pairs != [] and all([is_straight(known, derivings, source, more) for source, more in pairs])


def look_at_sum(known, plan, name, column):
    """NoTable, NoColumn or NoSum, the first that is due, where no sum of the column of the name goes out."""
    look_at_name(known, name)
    if kind_of(known[name], column) is None:
        raise NoColumn(column)
    if not is_straight(known, dict(plan), name, column):
        raise NoSum()


def table_weights(known, rows, name, column):
    """The weights of the cells in a column of a table."""
    place = place_of(known[name], column)
    told = {}
    for thread, row in rows:
        bears = row[place] is not None and persons_of(row) != ()
        told[thread] = {(thread[1], column): 1} if bears else {}
    return told


def parts_of(known, deriving, column, threads, below):
    """The weights that those of one cell are made of: tuples (sign, weights)."""
    word = deriving[0]
    if word == "group" or (word == "window" and column == "window"):
        return [(1, below[0][thread]) for thread in threads]
    if word == "more" and column == deriving[2]:
        sign = 1 if deriving[4] == "plus" else -1
        return [(1, below[0][threads[0]]), (sign, below[1][threads[0]])]
    if word == "both":
        side = 0 if threads[0][0] == deriving[1] else 1
        return [(1, below[side][threads[0]])]
    if word in ("join", "outer") and kind_of(known[deriving[1]], column) is None:
        return [(1, below[0][threads[1]])]
    return [(1, below[0][threads[0]])]


def added(parts):
    """The weights of all parts together, those taken off whose sign is below nought."""
    told = {}
    for sign, weights_there in parts:
        for cell, many in weights_there.items():
            told[cell] = told.get(cell, 0) + sign * many
    return told


def column_weights(known, derivings, lists, name, column):
    """The weights of each cell in a straight column of the name: a dict from the rows' threads."""
    if name not in derivings:
        return table_weights(known, lists[name], name, column)
    deriving = derivings[name]
    pairs = comes_of(known, deriving, column)
    below = [column_weights(known, derivings, lists, source, more) for source, more in pairs]
    place = place_of(known[name], column)
    told = {}
    for thread, row in lists[name]:
        # A cell None stands in no sum, and where one is missing nothing is reckoned of the other.
        parts = [] if row[place] is None else parts_of(known, deriving, column, thread[1], below)
        told[thread] = added(parts)
    return told


def sum_weights(known, plan, lists, name, column):
    """The weights of the sum of a straight column of the name, sorted by cells, none of them nought."""
    by_thread = column_weights(known, dict(plan), lists, name, column)
    told = added([(1, there) for there in by_thread.values()])
    return {cell: told[cell] for cell in sorted(told) if told[cell] != 0}


def weights(tables, plan, derived, name, column):
    """The weights of the sum of a column of the name, as what is derived stands."""
    known = known_columns(tables, plan)
    look_at_sum(known, plan, name, column)
    return sum_weights(known, plan, derived, name, column)
