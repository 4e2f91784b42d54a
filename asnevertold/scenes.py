"""What a history and a book tell at the moments of asks, worked out once.

What an ask bears hangs on nothing that was let in behind it, for that is known later: so what was worked out for an
ask stands until somebody is forgotten.
"""

from asnevertold.models import learnt_of
from asnevertold.tables import persons_of


class Scenes:
    """A history and a book with what they tell, by the purposes and moments of asks."""

    def __init__(self, frame, models, history, book):
        self._frame = frame
        self._models = models
        self._history = history
        self._book = book
        self._lists = {}
        self._learnt = {}

    def stands(self, purpose, at):
        """The tables' rows so at a moment, as known then: those allowed for the purpose, all where it is None."""
        stands = self._history.stands(at, known=at)
        if purpose is None:
            return stands
        allowing = self._book.allowing(purpose, at, at)
        return {name: allowed(rows, allowing) for name, rows in stands.items()}

    def worked_out(self, purpose, at):
        """The lists of all names, of such rows; nothing of them is kept."""
        return self._frame.lists(self.stands(purpose, at))

    def lists(self, purpose, at):
        """The lists of all names at an ask, which nobody may change."""
        if (purpose, at) not in self._lists:
            self._lists[(purpose, at)] = self.worked_out(purpose, at)
        return self._lists[(purpose, at)]

    def learnt(self, at):
        """What is learnt by all models at an ask, which nobody may change."""
        if at not in self._learnt:
            self._learnt[at] = learnt_by_name(self._frame, self._models, self.lists(None, at))
        return self._learnt[at]

    def take_over(self, elder, purpose, at):
        """Work out what is told at an ask by what other scenes told there: most of it is the same."""
        if (purpose, at) not in self._lists:
            lists = elder.lists(purpose, at)
            self._lists[(purpose, at)] = self._frame.relisted(lists, self.stands(purpose, at), self._frame.plan)

    def twin(self, history, book):
        """Scenes alike of twins of the history and the book."""
        made = Scenes(self._frame, self._models, history, book)
        made._lists = {asked: self._lists[asked] for asked in self._lists}
        made._learnt = {at: self._learnt[at] for at in self._learnt}
        return made


def allowed(rows, allowing):
    """Those of the rows all persons of which allow it."""
    return [pair for pair in rows if all([person in allowing for person in persons_of(pair[1])])]


def learnt_of_rows(frame, source, rows, model):
    """What is learnt by the model of the rows of its name."""
    return learnt_of(frame.columns[source], [row for thread, row in rows], model)


def learnt_by_name(frame, models, lists):
    """What is learnt by each of the models."""
    return {name: learnt_of_rows(frame, source, lists[source], model) for name, (source, model) in models.items()}
