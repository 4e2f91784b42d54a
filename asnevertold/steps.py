"""One deriving at a time: the rows that each makes of those of its sources.

Known is a dict from names to their columns, as plans tells them, lists one from names to lists of tuples
(thread, row), sorted by thread. Of each deriving a function makes a list of tuples (threads, row), in any
order, threads those of the rows that it came of.
"""

from asnevertold.plans import known_columns, place_of


def is_kept(word, cell, told):
    """Whether a keep by this word and told cell keeps a row with this cell."""
    if word == "is":
        return cell == told
    if cell is None:
        return False
    return cell >= told if word == "least" else cell <= told


def keep_rows(known, lists, deriving):
    """The rows that a keep makes."""
    source, column, word, told = deriving[1:]
    place = place_of(known[source], column)
    return [((thread,), row) for thread, row in lists[source] if is_kept(word, row[place], told)]


def reckoned(one, word, other):
    """Both cells together by the word, None where one is None."""
    if one is None or other is None:
        return None
    return one + other if word == "plus" else one - other


def more_rows(known, lists, deriving):
    """The rows that a more makes."""
    source, _, column, word, other = deriving[1:]
    place = place_of(known[source], column)
    away = place_of(known[source], other)
    return [((thread,), (*row, reckoned(row[place], word, row[away]))) for thread, row in lists[source]]


def rows_by_cell(rows, place):
    """The rows by their cell at the place, which they are told without; those where it is None are left out."""
    told = {}
    for thread, row in rows:
        if row[place] is not None:
            told.setdefault(row[place], []).append((thread, row[:place] + row[place + 1:]))
    return told


def join_rows(known, lists, deriving):
    """The rows that a join makes."""
    one, other, column, more = deriving[1:]
    place = place_of(known[one], column)
    matches = rows_by_cell(lists[other], place_of(known[other], more))
    made = []
    for thread, row in lists[one]:
        for beside, cells in matches.get(row[place], []):
            made.append(((thread, beside), row + cells))
    return made


def outer_rows(known, lists, deriving):
    """The rows that an outer makes."""
    one, other = deriving[1:3]
    made = join_rows(known, lists, deriving)
    matched = {threads[0]: True for threads, row in made}
    nones = (None,) * (len(known[other]) - 1)
    alone = [((thread,), row + nones) for thread, row in lists[one] if thread not in matched]
    return made + alone


def lots_of(columns, rows, by):
    """The rows by lots: a dict from the cells in the columns of by to lists of rows."""
    places = [place_of(columns, name) for name in by]
    lots = {}
    for thread, row in rows:
        cells = tuple([row[place] for place in places])
        lots.setdefault(cells, []).append((thread, row))
    return lots


def cells_there(lot, place):
    """The cells at the place but None."""
    return [row[place] for thread, row in lot if row[place] is not None]


def counted(columns, lot, word, column):
    """What a group's word tells of the lot."""
    if word == "many":
        return len(lot)
    cells = cells_there(lot, place_of(columns, column))
    if word == "sum":
        return sum(cells)
    return min(cells, default=None) if word == "least" else max(cells, default=None)


def group_rows(known, lists, deriving):
    """The rows that a group makes."""
    source, by, word, column = deriving[1:]
    columns = known[source]
    made = []
    for cells, lot in lots_of(columns, lists[source], by).items():
        threads = tuple(sorted([thread for thread, row in lot]))
        made.append((threads, (*cells, counted(columns, lot, word, column))))
    return made


def rank_of(cell):
    """What a cell is sorted by: None goes ahead of all."""
    return (0, 0) if cell is None else (1, cell)


def in_order(lot, place):
    """The lot's rows by their cell at the place, then by thread."""
    ranked = [(rank_of(row[place]), thread, row) for thread, row in lot]
    # No two threads are alike, so rows, whose cells may be of unlike kinds, are never compared.
    return [(thread, row) for rank, thread, row in sorted(ranked)]


def window_rows(known, lists, deriving):
    """The rows that a window makes."""
    source, by, order, many, column = deriving[1:]
    columns = known[source]
    made = []
    for lot in list(lots_of(columns, lists[source], by).values()):
        ordered = in_order(lot, place_of(columns, order))
        for at, (_, row) in enumerate(ordered):
            seen = ordered[max(0, at + 1 - many):at + 1]
            threads = tuple([thread for thread, cells in seen[::-1]])
            made.append((threads, (*row, sum(cells_there(seen, place_of(columns, column))))))
    return made


def first_rows(known, lists, deriving):
    """The rows that a first makes."""
    source, by, order = deriving[1:]
    columns = known[source]
    made = []
    for lot in list(lots_of(columns, lists[source], by).values()):
        thread, row = in_order(lot, place_of(columns, order))[0]
        made.append(((thread,), row))
    return made


def both_rows(known, lists, deriving):
    """The rows that a both makes."""
    one, other = deriving[1:]
    return [((thread,), row) for thread, row in lists[one] + lists[other]]


MAKERS = {
    "keep": keep_rows,
    "more": more_rows,
    "join": join_rows,
    "outer": outer_rows,
    "group": group_rows,
    "window": window_rows,
    "first": first_rows,
    "both": both_rows,
}


def made_rows(known, lists, name, deriving):
    """The list of the name by its deriving: tuples (thread, row), sorted by thread."""
    maker = MAKERS[deriving[0]]
    made = [((name, threads), row) for threads, row in maker(known, lists, deriving)]
    return sorted(made, key=lambda pair: pair[0])


def all_lists(tables, plan, stands):
    """The lists of all names, those of the tables as they stand."""
    known = known_columns(tables, plan)
    lists = {table[0]: list(stands[table[0]]) for table in tables}
    for name, deriving in plan:
        lists[name] = made_rows(known, lists, name, deriving)
    return lists
