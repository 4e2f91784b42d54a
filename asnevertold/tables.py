"""Tables: what they are, their rows, and the persons in a row."""

from asnevertold.names import are_unlike, is_name, is_one_of, is_worth

MOST_TABLES = 6
MOST_COLUMNS = 6
KINDS = ("person", "number")
RULES = ("row", "part")


def is_column(thing):
    """Whether thing is a column: a tuple (name, kind, default)."""
    if not isinstance(thing, tuple) or len(thing) != 3:
        return False
    name, kind, default = thing
    if not is_name(name) or not is_one_of(KINDS, kind):
        return False
    return default is None or (kind == "number" and is_worth(default))


def are_columns(thing):
    """Whether thing is a tuple of one to six columns, called unlike."""
    if not isinstance(thing, tuple) or not 1 <= len(thing) <= MOST_COLUMNS:
        return False
    return all([is_column(column) for column in thing]) and are_unlike(thing)


def is_table(thing):
    """Whether thing is a table: a tuple (name, columns, rule)."""
    if not isinstance(thing, tuple) or len(thing) != 3:
        return False
    name, columns, rule = thing
    return is_name(name) and are_columns(columns) and is_one_of(RULES, rule)


def are_tables(thing):
    """Whether thing is tables: a tuple of one to six tables, called unlike."""
    if not isinstance(thing, tuple) or not 1 <= len(thing) <= MOST_TABLES:
        return False
    return all([is_table(table) for table in thing]) and are_unlike(thing)


def is_told_cell(kind, thing):
    """Whether thing may be told as a cell of a column of this kind."""
    if thing is None:
        return True
    return is_name(thing) if kind == "person" else is_worth(thing)


def is_row(table, thing):
    """Whether thing is a row of the table: cells for its first columns, one at least."""
    columns = table[1]
    if not isinstance(thing, tuple) or not 1 <= len(thing) <= len(columns):
        return False
    return all([is_told_cell(column[1], cell) for column, cell in zip(columns, thing)])


def read_row(table, row):
    """The row with all columns of the table, those that it lacks as their defaults."""
    defaults = [column[2] for column in table[1][len(row):]]
    return (*row, *defaults)


def persons_of(row):
    """The persons in the row, sorted, each once."""
    return tuple(sorted(set([cell for cell in row if isinstance(cell, str)])))
