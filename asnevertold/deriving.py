"""What a plan derives from tables as they stand, and the keys that a thread holds."""

from asnevertold.frame import Frame


def derived(tables, plan, stands):
    """A dict from all names, the tables' and the plan's, to their lists of tuples (thread, row)."""
    return Frame(tables, plan).lists(stands)


def is_of_table(thread):
    """Whether the thread is that of a table's row: it holds a key, one of a derived row holds threads."""
    return isinstance(thread[1][0], str)


def all_keys(thread):
    """The keys of all threads of tables in the thread, in their order there."""
    if is_of_table(thread):
        return [thread[1]]
    keys = []
    for one in thread[1]:
        keys.extend(all_keys(one))
    return keys


def keys_of(thread):
    """The keys of all threads of tables in the thread, sorted, each once."""
    return sorted(set(all_keys(thread)))
