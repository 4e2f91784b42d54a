"""What is learnt by one model while rows come and go: by counts that turn, or anew where that can't be.

A tally shifts by rows that come, by the step 1, or go, by the step -1, and looks perhaps at all that are there then.
"""

from asnevertold.models import learnt_of, turns
from asnevertold.plans import place_of


class SharesTally:
    """The counts of a column's cells."""

    def __init__(self, columns, model):
        self._place = place_of(columns, model[1])
        self._many = {}
        self._all = 0

    def shift(self, rows, step, _):
        """Count the rows that come or go: told is what turned."""
        cells = [row[self._place] for row in rows if row[self._place] is not None]
        if not cells:
            return []
        turned = sorted(set([*self._many, *cells]))
        self._all += step * len(cells)
        for cell in cells:
            add_to(self._many, cell, step)
        # Each share tells of how many there are at all.
        return turned

    def told(self):
        """The shares."""
        return [(cell, self._many[cell], self._all) for cell in sorted(self._many)]


class PairsTally:
    """The counts of pairs: a dict from pairs' places and cells to how many rows have them."""

    def __init__(self, columns, model):
        names, fewest = model[1:]
        self._names = names
        self._places = [place_of(columns, name) for name in names]
        self._fewest = fewest
        self._many = {}

    def shift(self, rows, step, _):
        """Count the rows that come or go: told is what turned."""
        before = {}
        for row in rows:
            for pair in self._pairs_of(row):
                before.setdefault(pair, self._many.get(pair, 0))
                add_to(self._many, pair, step)
        turned = [pair for pair in before if self._otherwise(before[pair], self._many.get(pair, 0))]
        return sorted([self._named(pair) for pair in turned])

    def told(self):
        """The pairs."""
        there = sorted([pair for pair, many in self._many.items() if many >= self._fewest])
        return [(*self._named(pair), self._many[pair]) for pair in there]

    def _pairs_of(self, row):
        """The pairs that the row has: tuples (place, other place, cell, other cell)."""
        cells = [row[place] for place in self._places]
        pairs = []
        for place, cell in enumerate(cells):
            if cell is not None:
                for away in range(place + 1, len(cells)):
                    if cells[away] is not None:
                        pairs.append((place, away, cell, cells[away]))
        return pairs

    def _otherwise(self, one, other):
        """Whether a pair is told otherwise where so many rows have it as the other than as the one."""
        return one != other and max(one, other) >= self._fewest

    def _named(self, pair):
        """The pair as it is told, without how many."""
        place, away, cell, beside = pair
        return self._names[place], cell, self._names[away], beside


class AnewTally:
    """What is learnt of all rows anew as they turn."""

    def __init__(self, columns, model):
        self._columns = columns
        self._model = model
        self._learnt = learnt_of(columns, [], model)

    def shift(self, rows, step, there):
        """Learn of all rows that there are now: told is what turned."""
        before = self._learnt
        self._learnt = learnt_of(self._columns, there, self._model)
        return turns(self._model, before, self._learnt)

    def told(self):
        """What is learnt."""
        return list(self._learnt) if isinstance(self._learnt, list) else self._learnt


def add_to(counts, thing, step):
    """Count the thing by the step; of what is counted nought nothing is left."""
    many = counts.get(thing, 0) + step
    if many == 0:
        del counts[thing]
    else:
        counts[thing] = many
