"""What is learnt by a model while rows come and go."""

from asnevertold.errors import NoModel, NoRows
from asnevertold.models import is_model, learn, turns
from asnevertold.names import is_name, is_whole


def is_cell(kind, thing):
    """Whether thing is a cell of a column of this kind, of a table or derived."""
    if thing is None:
        return True
    return is_name(thing) if kind == "person" else is_whole(thing)


def is_row_of(columns, thing):
    """Whether thing is a row with just these columns."""
    if not isinstance(thing, tuple) or len(thing) != len(columns):
        return False
    return all([is_cell(column[1], cell) for column, cell in zip(columns, thing)])


class Learnt:
    """Rows, in any order, and what is learnt of them."""

    def __init__(self, columns, model):
        if not is_model(columns, model):
            raise NoModel()
        self._columns = list(columns)
        self._model = model
        self._rows = []

    def __len__(self):
        return len(self._rows)

    def come(self, rows):
        """Take these rows in: told is what turned."""
        self._look_at(rows)
        return self._turn_to(self._rows + rows)

    def go(self, rows):
        """Let these rows go, each as often as it is among them: told is what turned."""
        self._look_at(rows)
        left = list(self._rows)
        for row in rows:
            if row not in left:
                raise NoRows()
            left.remove(row)
        return self._turn_to(left)

    def told(self):
        """What is learnt of the rows."""
        return learn(self._columns, self._rows, self._model)

    def twin(self):
        """A Learnt alike, which goes on by itself."""
        made = Learnt(self._columns, self._model)
        made.come(list(self._rows))
        return made

    def _look_at(self, thing):
        """NoRows of anything but a list of rows of the columns."""
        if not isinstance(thing, list) or not all([is_row_of(self._columns, row) for row in thing]):
            raise NoRows()

    def _turn_to(self, rows):
        """Have these rows in the stead of those that there were: told is what turned."""
        before = self.told()
        self._rows = list(rows)
        return turns(self._model, before, self.told())
