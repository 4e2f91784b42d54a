"""The history: entries as they were let in, and what they tell at a moment, as known at one."""

from asnevertold.errors import NoEntry, NoKey, NoPerson, NoTable
from asnevertold.moments import END, look_at_moments
from asnevertold.names import LAST_MOMENT, are_names, is_key, is_moment, is_span
from asnevertold.tables import Looked, has_persons, is_row, persons_of, read_row

ENTRY_LONG = 8


def has_form(thing):
    """Whether thing has the form of an entry; its table, its row, rights and cause are looked at apart."""
    if not isinstance(thing, tuple) or len(thing) != ENTRY_LONG:
        return False
    key, _, row, since, till, known, rights, _ = thing
    if row is None and rights is None:
        return False
    return is_key(key) and is_span(since, till) and is_moment(known)


def is_in(row, persons):
    """Whether one of the persons is in the row."""
    for person in persons:
        if person in row:
            return True
    return False


def row_without(row, persons):
    """The row with None for the persons' cells."""
    # No number is ever a name, so it is enough to look whether the cell is among them.
    return tuple([None if cell in persons else cell for cell in row])


def put_in_order(rows, item):
    """Put the item, which begins with its thread, where the rows stay sorted by their threads."""
    # Keys mostly rise while rows are told, so the place is looked for from the end.
    if not rows or rows[-1][0] < item[0]:
        rows.append(item)
        return
    place = len(rows) - 1
    while place > 0 and rows[place - 1][0] > item[0]:
        place -= 1
    rows.insert(place, item)


class History:
    """Entries of some tables, in the order in which they were let in."""

    def __init__(self, tables):
        # Who has tables that were looked at already, as a twin has, may make it of these.
        self._looked = tables if isinstance(tables, Looked) else Looked(tables)
        self._by_name = self._looked.by_name
        self._entries = []
        self._by_key = {}
        # By each key that was put right: from when on this is known.
        self._righted = {}
        # Of each table what may stand, sorted by thread: tuples (thread, read row, key, since, till, known).
        self._rows = {name: [] for name in self._by_name}

    def __len__(self):
        return len(self._entries)

    def __eq__(self, other):
        return isinstance(other, History) and self._alike() == other._alike()

    def put(self, entry):
        """Let the entry in, or refuse it with NoEntry."""
        word = self.amiss(entry, self._entries[-1][5] if self._entries else 0)
        if word is not None:
            raise NoEntry(word)
        self.let_in(entry)

    def tables(self):
        """The tables that it was made of."""
        return self._looked.told_tables

    def entries(self):
        """The entries, in order."""
        return list(self._entries)

    def entry(self, key):
        """The entry that has the key."""
        if not self._has_key(key):
            raise NoKey(key)
        return self._by_key[key]

    def rows_at(self, name, so, *, known=None):
        """The table's rows so at a moment, as known at another: a list of tuples (thread, row)."""
        if not isinstance(name, str) or name not in self._by_name:
            raise NoTable(name)
        look_at_moments(so, known)
        return self._standing(name, so, LAST_MOMENT if known is None else known)

    def stands(self, so, *, known=None):
        """Each table's rows so at a moment, as known at another."""
        look_at_moments(so, known)
        latest = LAST_MOMENT if known is None else known
        return {name: self._standing(name, so, latest) for name in self._by_name}

    def without(self, persons):
        """A History of its own that was told all but what goes with the persons."""
        stay, _, _ = self.parted(persons)
        return self.with_entries(stay)

    def gone(self, persons):
        """The keys of the entries that go with the persons."""
        _, gone, _ = self.parted(persons)
        return gone

    def lacking(self, persons):
        """The keys of the entries that stay, and whose rows lack the persons then."""
        _, _, lacking = self.parted(persons)
        return lacking

    def twin(self):
        """A History alike, which goes on by itself."""
        made = History(self._looked)
        made._entries = list(self._entries)
        made._by_key = {key: entry for key, entry in self._by_key.items()}
        made._righted = {key: known for key, known in self._righted.items()}
        made._rows = {name: list(rows) for name, rows in self._rows.items()}
        return made

    def let_in(self, entry):
        """Let in an entry that fits those that there are."""
        key, name, row, since, till, known, rights, _ = entry
        self._entries.append(entry)
        self._by_key[key] = entry
        if rights is not None:
            self._righted[rights] = known
        if row is not None:
            cells = read_row(self._by_name[name], row)
            put_in_order(self._rows[name], ((name, key), cells, key, since, END if till is None else till, known))

    def with_entries(self, entries):
        """A History of the same tables with other entries, which fit one another."""
        made = History(self._looked)
        for entry in entries:
            made.let_in(entry)
        return made

    def last_known(self):
        """The known moment of the last entry, 0 of none."""
        return self._entries[-1][5] if self._entries else 0

    def persons_by_key(self):
        """The persons of each entry's row: a dict from the keys to sorted tuples."""
        return {entry[0]: persons_of(entry[2] or ()) for entry in self._entries}

    def amiss(self, thing, least):
        """The word of what is amiss first where thing is to be let in, known from least on, or None."""
        if not has_form(thing):
            return "form"
        key, name, row, _, _, known, rights, cause = thing
        if not isinstance(name, str) or name not in self._by_name:
            return "table"
        if row is not None and not is_row(self._by_name[name], row):
            return "row"
        if key in self._by_key:
            return "key"
        if known < least:
            return "known"
        if rights is not None and not self._may_right(name, rights):
            return "rights"
        if cause is not None and not self._has_key(cause):
            return "cause"
        return None

    def parted(self, persons):
        """The entries that stay, as they are then, the keys of those that go and of those that lack something."""
        if not are_names(persons):
            raise NoPerson(persons)
        stay, gone, lacking = [], {}, []
        for entry in self._entries:
            key, name, row, _, _, _, rights, cause = entry
            if rights in gone or cause in gone:
                gone[key] = True
            elif row is None or not is_in(row, persons):
                stay.append(entry)
            else:
                left = row_without(row, persons)
                # By rule part the row stays where somebody is left in it.
                if self._by_name[name][2] == "row" or not has_persons(left):
                    gone[key] = True
                else:
                    lacking.append(key)
                    stay.append((key, name, left, *entry[3:]))
        return stay, list(gone), lacking

    def _alike(self):
        """What a History has alike with another one."""
        return self._entries, self._looked.told_tables

    def _has_key(self, thing):
        """Whether an entry has the key; of anything that is no key none has."""
        return is_key(thing) and thing in self._by_key

    def _may_right(self, name, rights):
        """Whether an entry of this table may still be put right by its key rights."""
        return self._has_key(rights) and self._by_key[rights][1] == name and rights not in self._righted

    def _standing(self, name, so, latest):
        """The table's rows, read, that stand so at the moment, as known at the latest."""
        righted = self._righted
        return [
            (thread, cells) for thread, cells, key, since, till, known in self._rows[name]
            if since <= so < till and known <= latest and (key not in righted or righted[key] > latest)
        ]
