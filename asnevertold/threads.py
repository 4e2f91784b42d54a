"""The judge of derived rows, what turns between two deriveds, and what hangs on a key."""

from asnevertold.alike import is_just
from asnevertold.deriving import keys_of
from asnevertold.frame import Frame
from asnevertold.names import is_key, is_name
from asnevertold.steps import made_rows


def has_names(known, thing):
    """Whether thing is a dict with just these names."""
    if not isinstance(thing, dict) or len(thing) != len(known):
        return False
    return all([is_name(name) and name in known for name in thing])


def judged(frame, stands, thing):
    """Whether thing, anything, is what is derived, by one deriving at a time from what stands in it."""
    if not has_names(frame.columns, thing):
        return False
    for table in frame.base:
        if not is_just(stands[table[0]], thing[table[0]]):
            return False
    for name, deriving in frame.plan:
        # Its sources stand ahead of it and were let by, so nothing is derived from what is no rows.
        if not is_just(made_rows(frame.places, thing, name, deriving), thing[name]):
            return False
    return True


def lets_derived(tables, plan, stands, thing):
    """Whether thing, anything, is what is derived of tables by a plan as the tables stand."""
    return judged(Frame(tables, plan), stands, thing)


def rows_not_in(rows, others):
    """Those of the rows that the others haven't, sorted by thread."""
    there = {thread: row for thread, row in others}
    found = [(thread, row) for thread, row in rows if thread not in there or there[thread] != row]
    return sorted(found, key=lambda pair: pair[0])


def turned(one, other):
    """What turns between two deriveds of one plan: a dict from names to tuples (goes, comes)."""
    told = {}
    for name in sorted(one):
        if one[name] == other[name]:
            continue
        goes = rows_not_in(one[name], other[name])
        comes = rows_not_in(other[name], one[name])
        if goes or comes:
            told[name] = (goes, comes)
    return told


def hanging(derived, key):
    """What hangs on the key: a sorted list of tuples (name, thread)."""
    if not is_key(key):
        return []
    found = []
    for name in derived:
        found.extend([(name, thread) for thread, row in derived[name] if key in keys_of(thread)])
    return sorted(found)


def without_key(tables, plan, stands, key):
    """What turns where the table's row of the key is left out."""
    if not is_key(key):
        return {}
    frame = Frame(tables, plan)
    whole = frame.lists(stands)
    left = {table[0]: [pair for pair in whole[table[0]] if pair[0][1] != key] for table in tables}
    return turned(whole, frame.relisted(whole, left, plan))
