"""What a house looks up in its lists: what is found, who is leant on, what is shown; and new ones of what it tells."""

from asnevertold.deriving import all_keys, keys_of


def found_by(rows, place):
    """The sorted keys of a table's rows by their cells at the place, None ahead, then the cells sorted."""
    told = {}
    for thread, row in rows:
        told.setdefault(row[place], []).append(thread[1])
    cells = sorted([cell for cell in told if cell is not None])
    return {cell: sorted(told[cell]) for cell in ([None] if None in told else []) + cells}


def keys_with(entries, person):
    """The keys of the entries whose rows have the person: a dict from them to True."""
    return {entry[0]: True for entry in entries if entry[2] is not None and person in entry[2]}


def leans(rows, keys):
    """Whether one of the rows' threads has one of the keys."""
    return any([key in keys for thread, row in rows for key in all_keys(thread)])


def shown_to(person, lists, persons):
    """What of the lists is shown to the person, by the persons of each key's row: tuples (name, what)."""
    told = []
    for name, rows in lists.items():
        for thread, row in rows:
            keys = keys_of(thread)
            theirs = [key for key in keys if person in persons[key]]
            if theirs:
                alone = all([one == person for key in keys for one in persons[key]])
                told.append((name, row if alone else theirs))
    return told


def new_lists(lists):
    """The same lists as new ones."""
    return {name: list(rows) for name, rows in lists.items()}


def new_learnt(learnt):
    """What was learnt by names, with lists of its own; trees are tuples, which may be shared."""
    return {name: list(told) if isinstance(told, list) else told for name, told in learnt.items()}
