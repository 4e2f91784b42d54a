"""The refusals of the house, each with the fields that it was made of, kept just so."""


class HouseError(ValueError):
    """What was handed in does not fit the house."""


class NoTables(HouseError):
    """What was handed in as tables is none."""


class NoPlan(HouseError):
    """What was handed in as a plan is none: number is that of the first thing amiss, or None."""

    def __init__(self, number):
        self.number = number


class NoModel(HouseError):
    """What was handed in as a model is none."""


class NoEntry(HouseError):
    """An entry was not let in: word says what is amiss."""

    def __init__(self, word):
        self.word = word


class NoPermission(HouseError):
    """A permission was not let in: word says what is amiss."""

    def __init__(self, word):
        self.word = word


class NoTurn(HouseError):
    """Rows can't go and come so: word says which of both is amiss."""

    def __init__(self, word):
        self.word = word


class NoRows(HouseError):
    """What was handed in as rows is none, or would go and isn't there."""


class NoSum(HouseError):
    """The column is not one of which sums go out."""


class NoFewest(HouseError):
    """What was handed in as the fewest persons of a sum is none."""


class NoText(HouseError):
    """A text can't be read back: row is the number of the first row amiss."""

    def __init__(self, row):
        self.row = row


class NoRow(HouseError):
    """What was said to a desk is none of its rows."""


class NoTable(KeyError):
    """No table, or no other thing asked for by a name, is called so."""

    def __init__(self, name):
        self.name = name


class NoColumn(KeyError):
    """No column is called so."""

    def __init__(self, name):
        self.name = name


class NoKey(KeyError):
    """No entry has this key."""

    def __init__(self, key):
        self.key = key


class NoPerson(KeyError):
    """What was handed in as a person, or as persons, is none."""

    def __init__(self, thing):
        self.thing = thing


class NoMoment(IndexError):
    """What was handed in as a moment is none, or none that may be asked for."""

    def __init__(self, thing):
        self.thing = thing


class NoNumber(IndexError):
    """Nothing of the sort asked for has this number."""

    def __init__(self, thing):
        self.thing = thing


class Bare(RuntimeError):
    """Nothing is left to take back, or to go on with."""


class Amid(RuntimeError):
    """A forgetting is under way."""


class Refused(RuntimeError):
    """A sum would tell of too few: combination shows it."""

    def __init__(self, combination):
        self.combination = combination
