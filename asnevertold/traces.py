"""The cells that are found in what a paper tells, of any form."""


def parts(thing):
    """What is in a list or a tuple, in its order; nothing is in anything else."""
    return list(thing) if isinstance(thing, (list, tuple)) else []


def worths(thing):
    """What a dict tells of its keys; nothing of anything else."""
    return list(thing.values()) if isinstance(thing, dict) else []


def part(thing, place):
    """What stands at the place in a list or a tuple, None where nothing stands there."""
    there = parts(thing)
    return there[place] if place < len(there) else None


def cells_of_entries(thing):
    """The cells of the entries' rows."""
    return [cell for entry in parts(thing) for cell in parts(part(entry, 2))]


def cells_of_permits(thing):
    """The persons of the permissions."""
    return [part(permission, 0) for permission in parts(thing)]


def cells_of_lists(thing):
    """The cells of the rows of all lists."""
    return [cell for rows in worths(thing) for pair in parts(rows) for cell in parts(part(pair, 1))]


def cells_of_node(node):
    """The cells that a tree's node, and those below it, counted."""
    if not isinstance(node, tuple):
        return []
    cells = [part(pair, 0) for pair in parts(part(node, 1))]
    for below in node[4:6]:
        cells.extend(cells_of_node(below))
    return cells


def cells_of_learnt(told):
    """The cells in what one model learnt."""
    if isinstance(told, tuple):
        return cells_of_node(told)
    cells = []
    for one in parts(told):
        if len(parts(one)) == 3:
            cells.append(part(one, 0))
        if len(parts(one)) == 5:
            cells.extend([part(one, 1), part(one, 3)])
    return cells


def cells_of_text(thing):
    """The cells of the rows that an export's text tells."""
    if not isinstance(thing, str):
        return []
    return [cell for row in thing.split("\n") for cell in row.partition(" ")[2].split(",")]


def cells_at(place, thing):
    """All cells in what a paper tells at the place."""
    word = part(place, 0)
    if not isinstance(word, str):
        return []
    if word == "entries":
        return cells_of_entries(thing)
    if word == "permits":
        return cells_of_permits(thing)
    if word == "answer":
        return cells_of_lists(part(thing, 4))
    if word == "export":
        return cells_of_text(part(thing, 2))
    if word == "copy":
        learnt = [cell for told in worths(part(thing, 2)) for cell in cells_of_learnt(told)]
        return cells_of_lists(part(thing, 1)) + learnt
    return []
