"""The history: entries as they were let in, and what they tell at a moment, as known at one."""

from asnevertold.errors import NoEntry, NoKey, NoPerson, NoTable, NoTables
from asnevertold.moments import look_at_moments
from asnevertold.names import are_names, is_key, is_moment, is_name, is_span
from asnevertold.tables import are_tables, is_row, persons_of, read_row

ENTRY_LONG = 8


def has_form(thing):
    """Whether thing has the form of an entry; its table, its row, rights and cause are looked at apart."""
    if not isinstance(thing, tuple) or len(thing) != ENTRY_LONG:
        return False
    key, table, row, since, till, known, rights, cause = thing
    if not is_key(key) or not is_span(since, till) or not is_moment(known):
        return False
    return row is not None or rights is not None


def goes_with(rule, row, persons):
    """Whether a row goes with the persons by its table's rule."""
    theirs = [person in persons for person in persons_of(row)]
    if rule == "row":
        return any(theirs)
    return theirs != [] and all(theirs)


def row_without(row, persons):
    """The row with None for the persons' cells."""
    # No number is ever a name, so it is enough to look whether the cell is among them.
    return tuple([None if cell in persons else cell for cell in row])


class History:
    """Entries of some tables, in the order in which they were let in."""

    def __init__(self, tables):
        if not are_tables(tables):
            raise NoTables()
        self._tables = tables
        self._entries = []
        self._by_key = {}
        self._righted = {}

    def __len__(self):
        return len(self._entries)

    def __eq__(self, other):
        return isinstance(other, History) and self._tables == other._tables and self._entries == other._entries

    def put(self, entry):
        """Let the entry in, or refuse it with NoEntry."""
        word = self._amiss(entry)
        if word is not None:
            raise NoEntry(word)
        self._entries.append(entry)
        self._by_key[entry[0]] = entry
        if entry[6] is not None:
            self._righted[entry[6]] = True

    def tables(self):
        """The tables that it was made of."""
        return self._tables

    def entries(self):
        """The entries, in order."""
        return list(self._entries)

    def entry(self, key):
        """The entry that has the key."""
        if not self._has_key(key):
            raise NoKey(key)
        return self._by_key[key]

    def rows_at(self, name, so, *, known=None):
        """The table's rows so at a moment, as known at another: a list of tuples (thread, row)."""
        table = self._table(name)
        if table is None:
            raise NoTable(name)
        look_at_moments(so, known)
        return self._standing(table, so, known)

    def stands(self, so, *, known=None):
        """Each table's rows so at a moment, as known at another."""
        look_at_moments(so, known)
        return {table[0]: self._standing(table, so, known) for table in self._tables}

    def without(self, persons):
        """A History of its own that was told all but what goes with the persons."""
        stay, _, _ = self._parted(persons)
        return self._made_of(stay)

    def gone(self, persons):
        """The keys of the entries that go with the persons."""
        _, gone, _ = self._parted(persons)
        return gone

    def lacking(self, persons):
        """The keys of the entries that stay, and whose rows lack the persons then."""
        _, _, lacking = self._parted(persons)
        return lacking

    def twin(self):
        """A History alike, which goes on by itself."""
        return self._made_of(self._entries)

    def _made_of(self, entries):
        """A History of the same tables with these entries, which fit one another."""
        made = History(self._tables)
        for entry in list(entries):
            made.put(entry)
        return made

    def _table(self, name):
        """The table that is called so, None of anything else."""
        if is_name(name):
            for table in self._tables:
                if table[0] == name:
                    return table
        return None

    def _has_key(self, thing):
        """Whether an entry has the key; of anything that is no key none has."""
        return is_key(thing) and thing in self._by_key

    def _amiss(self, thing):
        """The word of what is amiss first where thing is to be let in as an entry, or None."""
        if not has_form(thing):
            return "form"
        key, name, row, _, _, known, rights, cause = thing
        table = self._table(name)
        if table is None:
            return "table"
        if row is not None and not is_row(table, row):
            return "row"
        if self._has_key(key):
            return "key"
        if self._entries and known < self._entries[-1][5]:
            return "known"
        if rights is not None and not self._may_right(name, rights):
            return "rights"
        if cause is not None and not self._has_key(cause):
            return "cause"
        return None

    def _may_right(self, name, rights):
        """Whether an entry of this table may still be put right by its key rights."""
        return self._has_key(rights) and self._by_key[rights][1] == name and rights not in self._righted

    def _standing(self, table, so, known):
        """The table's rows, read, that stand so at the moment as known at the other."""
        told = [entry for entry in self._entries if known is None or entry[5] <= known]
        righted = {entry[6]: True for entry in told}
        rows = []
        for key, name, row, since, till, _, _, _ in told:
            stands = since <= so and (till is None or till > so)
            if name == table[0] and stands and row is not None and key not in righted:
                rows.append(((name, key), read_row(table, row)))
        return sorted(rows, key=lambda pair: pair[0])

    def _parted(self, persons):
        """The entries that stay, as they are then, the keys of those that go and of those that lack something."""
        if not are_names(persons):
            raise NoPerson(persons)
        stay, gone, lacking = [], [], []
        for key, name, row, since, till, known, rights, cause in self._entries:
            rule = self._table(name)[2]
            if rights in gone or cause in gone or goes_with(rule, row or (), persons):
                gone.append(key)
                continue
            left = None if row is None else row_without(row, persons)
            if left != row:
                lacking.append(key)
            stay.append((key, name, left, since, till, known, rights, cause))
        return stay, gone, lacking
