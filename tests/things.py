"""What several tests need: tables, plans, rows, and things of other kinds."""

import random


class Likes:
    """Likens itself to anything."""

    def __eq__(self, other):
        return True

    def __hash__(self):
        return hash("ann")


def of_any_kind():
    """Things of which none is a name, a whole number or a tuple of such."""
    loop = []
    loop.append(loop)
    return [
        None, True, False, 1.0, 2.5, float("nan"), 1j, "", " ", "Ann", "ann ", "ninelette", b"ann", b"",
        (), (None,), [], ["ann"], {}, {"ann": 1}, set(), {"ann"}, frozenset(), range(3), loop,
        object(), Likes(), len, int, Likes,
    ]


def visits_and_stays():
    """Three tables."""
    return (
        ("visit", (("who", "person", None), ("day", "number", 0), ("cost", "number", None)), "row"),
        ("stay", (("guest", "person", None), ("night", "number", 0)), "part"),
        ("mark", (("grade", "number", None),), "row"),
    )


def standing(name, *rows):
    """A list of (thread, row), as a table has them: the keys are numbered from 0."""
    return [((name, ("s", number)), row) for number, row in enumerate(rows)]


def thread(name, *threads):
    """The thread of a derived row."""
    return (name, threads)


# Names of each deriving, up to three derivings away, of the tables visit and stay.
MANY_NAMES = (
    ("a", ("more", "visit", "d", "day", "less", "cost")),
    ("b", ("window", "a", ("who",), "d", 3, "d")),
    ("c", ("outer", "visit", "stay", "who", "guest")),
    ("d", ("group", "c", ("day", "who"), "least", "night")),
    ("e", ("join", "b", "stay", "who", "guest")),
    ("f", ("first", "c", ("who",), "night")),
    ("g", ("keep", "c", "night", "least", 2)),
    ("h", ("both", "g", "c")),
    ("i", ("group", "b", (), "most", "window")),
)


def some_stands(seed):
    """Stands with rows of any cells."""
    chance = random.Random(seed)
    persons = ["ann", "bob", "cid", None]
    cells = [None, 0, 1, 2, 5, 9]
    visits = [(chance.choice(persons), chance.choice(cells), chance.choice(cells)) for _ in range(chance.randint(0, 7))]
    stays = [(chance.choice(persons), chance.choice(cells)) for _ in range(chance.randint(0, 4))]
    return {"visit": standing("visit", *visits), "stay": standing("stay", *stays), "mark": []}


def some_entries(seed, many=12):
    """Entries of the tables visit, stay and mark with rights and causes in chains; all are let in, one by one."""
    chance = random.Random(seed)
    persons = ["ann", "bob", "cid", None]
    made, known, righted = [], 0, []
    for number in range(many):
        name = chance.choice(["visit", "stay", "stay", "mark"])
        known += chance.choice([0, 0, 1, 2])
        row = {
            "visit": (chance.choice(persons), chance.randint(0, 9), chance.choice([None, 3])),
            "stay": (chance.choice(persons), chance.choice(persons), chance.randint(0, 9)),
            "mark": (chance.randint(0, 9),),
        }[name][:chance.randint(1, 3)]
        since = chance.randint(0, 9)
        till = chance.choice([None, None, since + chance.randint(1, 5)])
        open_ones = [entry[0] for entry in made if entry[1] == name and entry[0] not in righted]
        rights = chance.choice(open_ones) if open_ones and chance.random() < 0.4 else None
        cause = chance.choice(made)[0] if made and chance.random() < 0.2 else None
        if rights is not None and chance.random() < 0.2:
            row = None
        righted.append(rights)
        made.append(((chance.choice(["a", "b"]), number), name, row, since, till, known, rights, cause))
    return made


def two_to_a_stay():
    """The three tables, but a stay is one of two persons, and goes by its part."""
    visit, _, mark = visits_and_stays()
    stay = ("stay", (("guest", "person", None), ("host", "person", None), ("night", "number", 4)), "part")
    return (visit, stay, mark)
