"""A desk: it says to a house what it is told in rows of words, and tells in words what the house does."""

from asnevertold.errors import NoRow
from asnevertold.house import House
from asnevertold.plans import look_at_name
from asnevertold.texts import is_number_word, read_entries, read_permits, show_rows

# Of each row's first word: how many words stand behind it, and which of these are numbers.
LONG = {"tell": 8, "allow": 6, "serve": 4, "copy": 1, "export": 2, "sum": 3, "answer": 1, "copied": 2, "forget": 1,
        "table": 2, "shown": 2}
NUMBERS = {"tell": (), "allow": (), "serve": (3,), "copy": (0,), "export": (1,), "sum": (2,), "answer": (0,),
           "copied": (0,), "forget": (), "table": (1,), "shown": (1,)}


def words_of(thing):
    """The words of a row, thing, by its form; NoRow of anything else."""
    if not isinstance(thing, str) or "\n" in thing:
        raise NoRow()
    words = thing.split(" ")
    if "" in words or words[0] not in LONG or len(words) != LONG[words[0]] + 1:
        raise NoRow()
    if not all([is_number_word(words[place + 1]) for place in NUMBERS[words[0]]]):
        raise NoRow()
    return words


def read_words(words):
    """What the words behind the first one tell: those that are numbers as whole ones, all others as they stand."""
    places = NUMBERS[words[0]]
    return [int(word) if place in places else word for place, word in enumerate(words[1:])]


def one_row(rows):
    """A list of (thread, row) in one row of words."""
    return show_rows(rows).replace("\n", "; ") or "-"


def tells(house, words):
    """Tell the house an entry."""
    house.tell(read_entries(" ".join(words))[0])
    return "ok"


def allows(house, words):
    """Tell the house a permission."""
    house.allow(read_permits(" ".join(words))[0])
    return "ok"


def serves(house, words):
    """Have an answer: its number."""
    return str(house.serve(*words))


def copies(house, words):
    """Have a copy: its number."""
    return str(house.copy(words[0]))


def exports(house, words):
    """Have an export: its number."""
    return str(house.export(*words))


def sums(house, words):
    """Have a sum go out: its total."""
    return str(house.publish(*words))


def answers(house, words):
    """The list that an answer bears."""
    _, _, _, _, rows = house.answer(words[0])
    return one_row(rows)


def copied(house, words):
    """One of the lists that a copy bears."""
    number, name = words
    _, told, _ = house.copied(number)
    look_at_name(told, name)
    return one_row(told[name])


def forgets(house, words):
    """Forget a person: how many entries went and lack something, how many places were remade, and are by then."""
    gone, lacking, remade, _ = house.forget(words[0])
    return f"{len(gone)} {len(lacking)} {len(remade)} {len(house.otherwise())}"


def lists(house, words):
    """A list as it is so at a moment."""
    return one_row(house.table(*words))


def shows(house, words):
    """How many rows are shown to a person."""
    return str(len(house.shown(*words)))


DOINGS = {"tell": tells, "allow": allows, "serve": serves, "copy": copies, "export": exports, "sum": sums,
          "answer": answers, "copied": copied, "forget": forgets, "table": lists, "shown": shows}


class Desk:
    """A desk with a house of its own."""

    def __init__(self, tables, plan, *, models=None, fewest=1):
        self._house = House(tables, plan, models=models, fewest=fewest)
        # One True for each row that it did: what was said is not kept.
        self._done = []

    def __len__(self):
        return len(self._done)

    def say(self, row):
        """Do what the row says: told is what comes of it."""
        words = words_of(row)
        doing = DOINGS[words[0]]
        told = doing(self._house, read_words(words))
        self._done.append(True)
        return told
