"""Houses that are drawn: what is told to them and asked of them, and houses that were never told somebody."""

import random

from asnevertold.errors import Amid, Refused
from asnevertold.history import History
from asnevertold.house import House

TABLES = (
    ("visit", (("who", "person", None), ("day", "number", 0), ("cost", "number", None)), "row"),
    ("stay", (("guest", "person", None), ("host", "person", None), ("night", "number", 4)), "part"),
    ("mark", (("grade", "number", None), ("by", "person", None)), "part"),
)
PLAN = (
    ("dear", ("keep", "visit", "cost", "least", 3)),
    ("beside", ("outer", "visit", "stay", "who", "guest")),
    ("less", ("more", "visit", "rest", "cost", "less", "day")),
    ("sums", ("group", "dear", ("who",), "sum", "cost")),
    ("runs", ("window", "less", (), "day", 2, "rest")),
    ("firsts", ("first", "beside", ("who",), "night")),
    ("twice", ("both", "dear", "visit")),
    ("most", ("group", "stay", (), "most", "night")),
)
MODELS = {
    "shares": ("visit", ("shares", "who")),
    "pairs": ("beside", ("pairs", ("who", "host", "night"), 1)),
    "tree": ("visit", ("tree", "who", ("day", "cost"), 2)),
    "lots": ("less", ("lots", ("day", "rest"), ((0, 0), (9, 9)), 3)),
}
PERSONS = ("ann", "bob", "cid", "dan", None)
NAMES = tuple(table[0] for table in TABLES) + tuple(name for name, _ in PLAN)
# Columns of which sums go out.
STRAIGHT = (("visit", "cost"), ("visit", "day"), ("dear", "cost"), ("beside", "night"), ("less", "rest"),
            ("sums", "sum"), ("runs", "window"), ("firsts", "cost"), ("twice", "cost"), ("stay", "night"))


class Drawing:
    """Rows of a house, drawn one behind the other: tuples (deed, arguments)."""

    def __init__(self, seed, persons=PERSONS):
        self.chance = random.Random(seed)
        self.persons = persons
        self.moment = 0
        self.asked = False
        self.number = 0
        self.told = []

    def person(self):
        return self.chance.choice(self.persons)

    def worth(self):
        return self.chance.choice((None, 0, 1, 2, 3, 5, 9))

    def go_on(self):
        """Let some time pass; behind an ask there is some, where an entry or a permission comes."""
        self.moment += self.chance.choice((0, 0, 1, 2))

    def row(self, name):
        row = {
            "visit": (self.person(), self.worth(), self.worth()),
            "stay": (self.person(), self.person(), self.worth()),
            "mark": (self.worth(), self.person()),
        }[name]
        return row[:self.chance.randint(1, 3)]

    def known(self):
        self.go_on()
        self.moment += self.asked
        self.asked = False
        return self.moment

    def entry(self, there):
        """An entry that fits those that are there, the History's."""
        known = self.known()
        name = self.chance.choice(("visit", "visit", "stay", "stay", "mark"))
        since = self.chance.randint(0, known + 2)
        till = self.chance.choice((None, None, since + self.chance.randint(1, 9)))
        righted = [entry[6] for entry in there]
        free = [entry[0] for entry in there if entry[1] == name and entry[0] not in righted]
        rights = self.chance.choice(free) if free and self.chance.random() < 0.3 else None
        cause = self.chance.choice(there)[0] if there and self.chance.random() < 0.15 else None
        row = None if rights is not None and self.chance.random() < 0.2 else self.row(name)
        self.number += 1
        return (self.chance.choice("ab"), self.number), name, row, since, till, known, rights, cause

    def permission(self):
        known = self.known()
        since = self.chance.choice((0, 0, known, known + 1))
        till = self.chance.choice((None, None, since + self.chance.randint(1, 9)))
        word = self.chance.choice(("allow", "allow", "allow", "withdraw"))
        return self.person() or "ann", self.purpose(), word, since, till, known

    def purpose(self):
        return self.chance.choice(("care", "care", "ads"))

    def ask(self):
        self.go_on()
        self.asked = True
        deed = self.chance.choice(("serve", "serve", "copy", "export", "publish"))
        name = self.chance.choice(NAMES)
        if deed == "serve":
            return deed, (self.person() or "eve", self.purpose(), name, self.moment)
        if deed == "copy":
            return deed, (self.moment,)
        if deed == "export":
            return deed, (name, self.moment)
        return deed, (*self.chance.choice(STRAIGHT), self.moment)

    def deed(self, there):
        """One more deed."""
        kind = self.chance.random()
        if kind < 0.45:
            return "tell", (self.entry(there),)
        if kind < 0.7:
            return "allow", (self.permission(),)
        return self.ask()


def do(house, deed, told):
    """Have the house do it: whether it did."""
    try:
        getattr(house, deed)(*told)
    except Refused:
        return False
    return True


def drawn(seed, many=16, fewest=1, persons=PERSONS):
    """A house with all that it did, in order: tuples (deed, arguments)."""
    drawing = Drawing(seed, persons)
    house = House(TABLES, PLAN, models=MODELS, fewest=fewest)
    done = []
    for person in persons[:-1]:
        # Most allow something from the begin, or the answers would have few rows.
        if drawing.chance.random() < 0.7:
            done.append(("allow", ((person, "care", "allow", 0, None, 0),)))
            do(house, *done[-1])
    done.extend(more(house, drawing, many))
    return house, done, drawing


def more(house, drawing, many):
    """Have the house do more: what it did."""
    done = []
    for _ in range(many):
        deed, told = drawing.deed(house.history().entries())
        if do(house, deed, told):
            done.append((deed, told))
    return done


def never_told(done, person):
    """The deeds without the person's entries and permissions."""
    history = History(TABLES)
    for deed, told in done:
        if deed == "tell":
            history.put(*told)
    left = {entry[0]: entry for entry in history.without([person]).entries()}
    kept = []
    for deed, told in done:
        if deed == "tell":
            if told[0][0] in left:
                kept.append((deed, (left[told[0][0]],)))
        elif deed != "allow" or told[0][0] != person:
            kept.append((deed, told))
    return kept


def house_of(done):
    """A house that did just this; its sums all go out."""
    house = House(TABLES, PLAN, models=MODELS)
    for deed, told in done:
        assert do(house, deed, told)
    return house


def bears(house, sort, number):
    """What it bears, without what it was asked with; Amid where it is not remade yet."""
    try:
        return {"answer": lambda: house.answer(number)[-1], "copy": lambda: house.copied(number)[1:],
                "export": lambda: house.exported(number)[-1], "sum": lambda: house.sums()[number][-1]}[sort]()
    except Amid:
        return Amid


def count(done, deed):
    """How often it was done."""
    return sum(one == deed for one, _ in done)


SORTS = {"answer": "serve", "copy": "copy", "export": "export", "sum": "publish"}


def all_borne(house, done):
    """All that was asked bears: a dict from tuples (sort, number)."""
    return {(sort, number): bears(house, sort, number)
            for sort, deed in SORTS.items() for number in range(count(done, deed))}
