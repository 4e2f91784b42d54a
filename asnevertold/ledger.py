"""The sums that went out, by what they weigh: what they tell together, forgotten persons' cells, too."""

from asnevertold.combining import combination


class Ledger:
    """The weights of sums as they went out.

    A cell of a row that goes is from then on a cell of its own. Its key is one that no entry has, and the forgotten
    person is called there as nobody can be, by the number of the forgetting.
    """

    def __init__(self):
        self._weights = []
        # Of the own cells' keys the persons.
        self._owners = {}
        self._forgettings = 0

    def telling(self, weights, persons, fewest):
        """A combination of all sums and one more that tells of too few, or None; persons are those by entries' keys."""
        owners = {key: self._owners[key] for key in self._owners}
        for key in persons:
            owners[key] = persons[key]
        return combination(self._weights + [weights], owners, fewest)

    def put(self, weights):
        """Keep the weights of a sum that goes out."""
        self._weights.append(weights)

    def part(self, person, rows):
        """Have the cells of rows that go, a dict from their keys to persons, as own ones, without the person."""
        self._forgettings += 1
        nowhere = str(self._forgettings)
        own = {}
        for number, key in enumerate(self._weighing(rows)):
            own[key] = (nowhere, number)
            self._owners[own[key]] = rows[key]
        for key, theirs in list(self._owners.items()):
            self._owners[key] = tuple([nowhere if one == person else one for one in theirs])
        for at, there in enumerate(list(self._weights)):
            self._weights[at] = {(own.get(key, key), column): many for (key, column), many in there.items()}

    def twin(self):
        """A Ledger alike, which goes on by itself."""
        made = Ledger()
        made._weights = list(self._weights)
        made._owners = {key: persons for key, persons in self._owners.items()}
        made._forgettings = self._forgettings
        return made

    def _weighing(self, keys):
        """Those of the keys of which some sum has a cell."""
        weighed = {key: True for there in self._weights for key, column in there}
        return [key for key in keys if key in weighed]
