"""Plans: what derivings there are, and the columns that they make.

While a plan is read, known is a dict from each name so far, the tables' first, to a tuple of its
columns, tuples (name, kind). Of each deriving a function makes the columns, or None where it is none.
"""

from asnevertold.errors import NoPlan, NoTable
from asnevertold.names import are_unlike, is_name, is_one_of, is_whole_within, is_worth

MOST_DERIVINGS = 12
FARTHEST = 3
MOST_BY = 2
LARGEST_CELL = 9999
WIDEST_WINDOW = 5

# Of each deriving's word: how many things its tuple has, and how many of these, next to the word, are sources.
SHAPES = {
    "keep": (5, 1),
    "more": (6, 1),
    "join": (5, 2),
    "outer": (5, 2),
    "group": (5, 1),
    "window": (6, 1),
    "first": (4, 1),
    "both": (3, 2),
}


def kind_of(columns, thing):
    """The kind of the column that is called so, None of anything else."""
    if is_name(thing):
        for name, kind in columns:
            if name == thing:
                return kind
    return None


def place_of(columns, name):
    """The place of the column that is called so."""
    return [column[0] for column in columns].index(name)


def are_by(columns, thing):
    """Whether thing is a tuple of none to two unlike columns."""
    if not isinstance(thing, tuple) or len(thing) > MOST_BY:
        return False
    if any([kind_of(columns, name) is None for name in thing]):
        return False
    return len(set(thing)) == len(thing)


def may_keep(kind, word, cell):
    """Whether cells of this kind may be kept by the word and the cell."""
    if is_one_of(("least", "most"), word):
        return kind == "number" and is_worth(cell)
    if not is_one_of(("is",), word):
        return False
    if cell is None:
        return True
    if kind == "person":
        return is_name(cell)
    return is_whole_within(cell, -LARGEST_CELL, LARGEST_CELL)


def keep_columns(known, deriving):
    """The columns that a keep makes, or None."""
    source, column, word, cell = deriving[1:]
    kind = kind_of(known[source], column)
    if kind is None or not may_keep(kind, word, cell):
        return None
    return known[source]


def more_columns(known, deriving):
    """The columns that a more makes, or None."""
    source, name, column, word, other = deriving[1:]
    columns = known[source]
    if not is_name(name) or not is_one_of(("plus", "less"), word):
        return None
    if kind_of(columns, column) != "number" or kind_of(columns, other) != "number":
        return None
    return (*columns, (name, "number"))


def join_columns(known, deriving):
    """The columns that a join, or an outer, makes, or None."""
    one, other, column, more = deriving[1:]
    kind = kind_of(known[one], column)
    if kind is None or kind != kind_of(known[other], more):
        return None
    handed = [pair for pair in known[other] if pair[0] != more]
    return (*known[one], *handed)


def group_columns(known, deriving):
    """The columns that a group makes, or None."""
    source, by, word, column = deriving[1:]
    columns = known[source]
    if not are_by(columns, by):
        return None
    if is_one_of(("many",), word):
        fits = column is None
    else:
        fits = is_one_of(("sum", "least", "most"), word) and kind_of(columns, column) == "number"
    if not fits:
        return None
    handed = [(name, kind_of(columns, name)) for name in by]
    return (*handed, (word, "number"))


def window_columns(known, deriving):
    """The columns that a window makes, or None."""
    source, by, order, many, column = deriving[1:]
    columns = known[source]
    if not are_by(columns, by) or not is_whole_within(many, 1, WIDEST_WINDOW):
        return None
    if kind_of(columns, order) != "number" or kind_of(columns, column) != "number":
        return None
    return (*columns, ("window", "number"))


def first_columns(known, deriving):
    """The columns that a first makes, or None."""
    source, by, order = deriving[1:]
    columns = known[source]
    if not are_by(columns, by) or kind_of(columns, order) != "number":
        return None
    return columns


def both_columns(known, deriving):
    """The columns that a both makes, or None."""
    one, other = deriving[1:]
    if one == other or known[one] != known[other]:
        return None
    return known[one]


MAKERS = {
    "keep": keep_columns,
    "more": more_columns,
    "join": join_columns,
    "outer": join_columns,
    "group": group_columns,
    "window": window_columns,
    "first": first_columns,
    "both": both_columns,
}


def sources_of(deriving):
    """The names that a deriving takes its rows from, in its order."""
    return deriving[1:1 + SHAPES[deriving[0]][1]]


def has_shape(known, thing):
    """Whether thing is a tuple as long as its word's, with sources that are known."""
    if not isinstance(thing, tuple) or not thing or not is_one_of(list(SHAPES), thing[0]):
        return False
    if len(thing) != SHAPES[thing[0]][0]:
        return False
    return all([is_name(source) and source in known for source in sources_of(thing)])


def made_columns(known, deriving):
    """The columns that a deriving makes, or None of anything that is none."""
    if not has_shape(known, deriving):
        return None
    maker = MAKERS[deriving[0]]
    columns = maker(known, deriving)
    if columns is None or not are_unlike(columns):
        return None
    return columns


def is_newly_named(known, thing):
    """Whether thing is a tuple (name, deriving) whose name nothing has yet, whatever the deriving is."""
    if not isinstance(thing, tuple) or len(thing) != 2:
        return False
    return is_name(thing[0]) and thing[0] not in known


def known_columns(tables, plan):
    """All names of tables and plan, each with its columns; NoPlan of what is no plan."""
    if not isinstance(plan, tuple) or len(plan) > MOST_DERIVINGS:
        raise NoPlan(None)
    known = {table[0]: tuple([column[:2] for column in table[1]]) for table in tables}
    away = {table[0]: 0 for table in tables}
    for number, thing in enumerate(plan):
        if not is_newly_named(known, thing):
            raise NoPlan(number)
        name, deriving = thing
        columns = made_columns(known, deriving)
        if columns is None:
            raise NoPlan(number)
        known[name] = columns
        away[name] = 1 + max([away[source] for source in sources_of(deriving)])
        if away[name] > FARTHEST:
            raise NoPlan(number)
    return known


def look_at_plan(tables, plan):
    """None of a plan of these tables; NoPlan of anything else."""
    known_columns(tables, plan)


def look_at_name(known, name):
    """NoTable of anything that is no name of a table or of the plan."""
    if not is_name(name) or name not in known:
        raise NoTable(name)


def columns_of(tables, plan, name):
    """The columns, tuples (name, kind), of a table or of a name of the plan."""
    known = known_columns(tables, plan)
    look_at_name(known, name)
    return list(known[name])
