"""Tables: what they are, their rows, and the persons in a row."""

from asnevertold.errors import NoTables
from asnevertold.names import LAST_WORTH, are_unlike, is_name, is_worth

MOST_TABLES = 6
MOST_COLUMNS = 6
RULES = ("row", "part")


def is_column(thing):
    """Whether thing is a column: a tuple (name, kind, default)."""
    if not isinstance(thing, tuple) or len(thing) != 3:
        return False
    name, kind, default = thing
    if not is_name(name) or not isinstance(kind, str):
        return False
    if kind == "number":
        return default is None or is_worth(default)
    return kind == "person" and default is None


def are_columns(thing):
    """Whether thing is a tuple of one to six columns, called unlike."""
    if not isinstance(thing, tuple) or not 1 <= len(thing) <= MOST_COLUMNS:
        return False
    for column in thing:
        if not is_column(column):
            return False
    return are_unlike(thing)


def is_table(thing):
    """Whether thing is a table: a tuple (name, columns, rule)."""
    if not isinstance(thing, tuple) or len(thing) != 3:
        return False
    name, columns, rule = thing
    return is_name(name) and isinstance(rule, str) and rule in RULES and are_columns(columns)


def are_tables(thing):
    """Whether thing is tables: a tuple of one to six tables, called unlike."""
    if not isinstance(thing, tuple) or not 1 <= len(thing) <= MOST_TABLES:
        return False
    for table in thing:
        if not is_table(table):
            return False
    return are_unlike(thing)


class Looked:
    """Tables that were looked at, so that nobody has to do it again."""

    def __init__(self, tables):
        if not are_tables(tables):
            raise NoTables()
        self.told_tables = tables
        self.by_name = {table[0]: table for table in tables}


def is_row(table, thing):
    """Whether thing is a row of the table: cells for its first columns, one at least."""
    columns = table[1]
    if not isinstance(thing, tuple) or not 1 <= len(thing) <= len(columns):
        return False
    for place, cell in enumerate(thing):
        if cell is None:
            continue
        if columns[place][1] == "number":
            # As is_worth looks, but without a call for each of so many cells.
            if not isinstance(cell, int) or isinstance(cell, bool) or not 0 <= cell <= LAST_WORTH:
                return False
        elif not is_name(cell):
            return False
    return True


def read_row(table, row):
    """The row with all columns of the table, those that it lacks as their defaults."""
    if len(row) == len(table[1]):
        return row
    defaults = [column[2] for column in table[1][len(row):]]
    return (*row, *defaults)


def persons_of(row):
    """The persons in the row, sorted, each once."""
    return tuple(sorted(set([cell for cell in row if isinstance(cell, str)])))


def has_persons(row):
    """Whether there are persons in the row."""
    for cell in row:
        if isinstance(cell, str):
            return True
    return False
