"""What is learnt by a model while rows come and go."""

from asnevertold.errors import NoModel, NoRows
from asnevertold.models import is_model
from asnevertold.names import is_name, is_whole
from asnevertold.tallies import AnewTally, PairsTally, SharesTally


def is_row_of(columns, thing):
    """Whether thing is a row with just these columns, of a table or derived."""
    if not isinstance(thing, tuple) or len(thing) != len(columns):
        return False
    for column, cell in zip(columns, thing):
        if cell is not None:
            fits = is_name(cell) if column[1] == "person" else is_whole(cell)
            if not fits:
                return False
    return True


def tally_of(columns, model):
    """A tally of no rows for the model."""
    if model[0] == "shares":
        return SharesTally(columns, model)
    if model[0] == "pairs":
        return PairsTally(columns, model)
    return AnewTally(columns, model)


class Learnt:
    """Rows, in any order, and what is learnt of them."""

    def __init__(self, columns, model):
        if not is_model(columns, model):
            raise NoModel()
        self._columns = list(columns)
        self._model = model
        self._rows = []
        self._tally = tally_of(self._columns, model)

    def __len__(self):
        return len(self._rows)

    def come(self, rows):
        """Take these rows in: told is what turned."""
        self._look_at(rows)
        self._rows.extend(rows)
        return self._tally.shift(rows, 1, self._rows)

    def go(self, rows):
        """Let these rows go, each as often as it is among them: told is what turned."""
        self._look_at(rows)
        left = list(self._rows)
        for row in rows:
            if row not in left:
                raise NoRows()
            left.remove(row)
        self._rows = left
        return self._tally.shift(rows, -1, self._rows)

    def told(self):
        """What is learnt of the rows."""
        return self._tally.told()

    def twin(self):
        """A Learnt alike, which goes on by itself."""
        made = Learnt(self._columns, self._model)
        made.come(list(self._rows))
        return made

    def _look_at(self, thing):
        """NoRows of anything but a list of rows of the columns."""
        if not isinstance(thing, list):
            raise NoRows()
        for row in thing:
            if not is_row_of(self._columns, row):
                raise NoRows()
