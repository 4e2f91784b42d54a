"""Tables with a plan, looked at once, and the lists of all their names."""

from asnevertold.errors import NoColumn
from asnevertold.names import is_name
from asnevertold.plans import known_columns, sources_of
from asnevertold.steps import made_rows


class Frame:
    """Tables and a plan with what is asked of them again and again."""

    def __init__(self, tables, plan):
        self.base = tables
        self.plan = plan
        self.columns = known_columns(tables, plan)
        self.sources = {name: sources_of(deriving) for name, deriving in plan}
        self.places = {}
        for name, columns in self.columns.items():
            self.places[name] = {column[0]: place for place, column in enumerate(columns)}

    def place_of(self, name, column):
        """The place of a column of the name; NoColumn of anything that is none."""
        if not is_name(column) or column not in self.places[name]:
            raise NoColumn(column)
        return self.places[name][column]

    def list_of(self, name, stands):
        """The list of one name alone."""
        told = {table[0]: stands[table[0]] for table in self.base}
        for step, deriving in self.steps_to([name]):
            told[step] = made_rows(self.places, told, step, deriving)
        return list(told[name])

    def lists(self, stands):
        """The lists of all names, those of the tables as they stand."""
        told = {table[0]: list(stands[table[0]]) for table in self.base}
        for name, deriving in self.plan:
            told[name] = made_rows(self.places, told, name, deriving)
        return told

    def steps_to(self, names):
        """What of the plan is needed to derive these names."""
        needed = {name: True for name in names}
        steps = []
        for name, deriving in reversed(self.plan):
            if name in needed:
                steps.append((name, deriving))
                for source in self.sources[name]:
                    needed[source] = True
        return steps[::-1]

    def relisted(self, lists, stands, steps):
        """The lists where these rows stand for tables; only what comes of what turned is derived anew.

        Only the names of these steps are looked after; what didn't turn is handed on as it is.
        """
        told = {name: lists[name] for name in lists}
        turned = {}
        for name in stands:
            if stands[name] != lists[name]:
                told[name] = stands[name]
                turned[name] = True
        for name, deriving in steps:
            if any([source in turned for source in self.sources[name]]):
                rows = made_rows(self.places, told, name, deriving)
                if rows != lists[name]:
                    told[name] = rows
                    turned[name] = True
        return told
