"""One deriving at a time: the rows that each makes of those of its sources.

Places is a dict from names to dicts from their columns to the columns' places, lists one from names to lists of
tuples (thread, row), sorted by thread. Of each deriving a function makes a list of tuples (threads, row), in any
order, threads those of the rows that it came of.
"""


def keep_rows(places, lists, deriving):
    """The rows that a keep makes."""
    source, column, word, told = deriving[1:]
    place = places[source][column]
    if word == "is":
        return [((thread,), row) for thread, row in lists[source] if row[place] == told]
    there = [(thread, row) for thread, row in lists[source] if row[place] is not None]
    if word == "least":
        return [((thread,), row) for thread, row in there if row[place] >= told]
    return [((thread,), row) for thread, row in there if row[place] <= told]


def reckoned(one, word, other):
    """Both cells together by the word, None where one is None."""
    if one is None or other is None:
        return None
    return one + other if word == "plus" else one - other


def more_rows(places, lists, deriving):
    """The rows that a more makes."""
    source, _, column, word, other = deriving[1:]
    place = places[source][column]
    away = places[source][other]
    return [((thread,), (*row, reckoned(row[place], word, row[away]))) for thread, row in lists[source]]


def rows_by_cell(rows, place):
    """The rows by their cell at the place, which they are told without; those where it is None are left out."""
    told = {}
    for thread, row in rows:
        if row[place] is not None:
            told.setdefault(row[place], []).append((thread, row[:place] + row[place + 1:]))
    return told


def join_rows(places, lists, deriving):
    """The rows that a join makes."""
    one, other, column, more = deriving[1:]
    place = places[one][column]
    matches = rows_by_cell(lists[other], places[other][more])
    made = []
    for thread, row in lists[one]:
        for beside, cells in matches.get(row[place], []):
            made.append(((thread, beside), row + cells))
    return made


def outer_rows(places, lists, deriving):
    """The rows that an outer makes."""
    one, other = deriving[1:3]
    made = join_rows(places, lists, deriving)
    matched = {threads[0]: True for threads, row in made}
    nones = (None,) * (len(places[other]) - 1)
    alone = [((thread,), row + nones) for thread, row in lists[one] if thread not in matched]
    return made + alone


def lots_of(places, rows, by):
    """The rows by lots: a dict from the cells in the columns of by, whose places are told, to lists of rows."""
    there = [places[name] for name in by]
    lots = {}
    for thread, row in rows:
        cells = tuple([row[place] for place in there])
        lots.setdefault(cells, []).append((thread, row))
    return lots


def cells_there(lot, place):
    """The cells at the place but None."""
    return [row[place] for thread, row in lot if row[place] is not None]


def counted(lot, word, place):
    """What a group's word tells of the lot, by the cells at the place, which is None where they don't matter."""
    if word == "many":
        return len(lot)
    cells = cells_there(lot, place)
    if word == "sum":
        return sum(cells)
    return min(cells, default=None) if word == "least" else max(cells, default=None)


def group_rows(places, lists, deriving):
    """The rows that a group makes."""
    source, by, word, column = deriving[1:]
    place = None if column is None else places[source][column]
    made = []
    for cells, lot in lots_of(places[source], lists[source], by).items():
        threads = tuple(sorted([thread for thread, row in lot]))
        made.append((threads, (*cells, counted(lot, word, place))))
    return made


def rank_of(cell):
    """What a cell is sorted by: None goes ahead of all."""
    return (0, 0) if cell is None else (1, cell)


def in_order(lot, place):
    """The lot's rows by their cell at the place, then by thread."""
    ranked = [(rank_of(row[place]), thread, row) for thread, row in lot]
    # No two threads are alike, so rows, whose cells may be of unlike kinds, are never compared.
    return [(thread, row) for rank, thread, row in sorted(ranked)]


def window_rows(places, lists, deriving):
    """The rows that a window makes."""
    source, by, order, many, column = deriving[1:]
    sorted_by, place = places[source][order], places[source][column]
    made = []
    for lot in list(lots_of(places[source], lists[source], by).values()):
        ordered = in_order(lot, sorted_by)
        for at, (_, row) in enumerate(ordered):
            seen = ordered[max(0, at + 1 - many):at + 1]
            threads = tuple([thread for thread, cells in seen[::-1]])
            made.append((threads, (*row, sum(cells_there(seen, place)))))
    return made


def first_rows(places, lists, deriving):
    """The rows that a first makes."""
    source, by, order = deriving[1:]
    sorted_by = places[source][order]
    made = []
    for lot in list(lots_of(places[source], lists[source], by).values()):
        thread, row = in_order(lot, sorted_by)[0]
        made.append(((thread,), row))
    return made


def both_rows(places, lists, deriving):
    """The rows that a both makes."""
    one, other = deriving[1:]
    return [((thread,), row) for thread, row in lists[one] + lists[other]]


MAKERS = {
    "keep": keep_rows,
    "more": more_rows,
    "join": join_rows,
    "outer": outer_rows,
    "group": group_rows,
    "window": window_rows,
    "first": first_rows,
    "both": both_rows,
}


def made_rows(places, lists, name, deriving):
    """The list of the name by its deriving: tuples (thread, row), sorted by thread."""
    maker = MAKERS[deriving[0]]
    # No two threads are alike, so rows, whose cells may be of unlike kinds, are never compared.
    return sorted([((name, threads), row) for threads, row in maker(places, lists, deriving)])
