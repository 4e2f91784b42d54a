"""What is derived, kept while rows of tables go and come."""

from asnevertold.errors import Bare, NoTurn
from asnevertold.frame import Frame
from asnevertold.names import is_key, is_name
from asnevertold.plans import look_at_name
from asnevertold.tables import Looked, is_row
from asnevertold.threads import turned


class Kept:
    """The lists of tables and of a plan, turn by turn."""

    def __init__(self, tables, plan):
        self._by_name = Looked(tables).by_name
        self._frame = Frame(tables, plan)
        self._lists = self._frame.lists({table[0]: [] for table in tables})
        # The lists as they were ahead of each turn that stands.
        self._before = []

    def __len__(self):
        return len(self._before)

    def turn(self, goes, comes):
        """Let rows go and come: told is what turned."""
        standing = {thread: True for name in self._by_name for thread, row in self._lists[name]}
        if not self._may_go(standing, goes):
            raise NoTurn("goes")
        going = {thread: True for thread in goes}
        left = {thread: True for thread in standing if thread not in going}
        if not self._may_come(left, comes):
            raise NoTurn("comes")
        before = self._lists
        self._lists = self._frame.relisted(before, self._stands(going, comes), self._frame.plan)
        self._before.append(before)
        return turned(before, self._lists)

    def back(self):
        """Take the last turn back: told is what turned so."""
        if not self._before:
            raise Bare()
        before = self._lists
        self._lists = self._before.pop()
        return turned(before, self._lists)

    def derived(self):
        """The lists of all names."""
        return {name: list(rows) for name, rows in self._lists.items()}

    def table(self, name):
        """The list of a table or of a name of the plan."""
        look_at_name(self._frame.columns, name)
        return list(self._lists[name])

    def twin(self):
        """A Kept alike, which goes on by itself."""
        made = Kept(self._frame.base, self._frame.plan)
        # No list that is kept is ever changed, so both may have the same ones.
        made._lists = self._lists
        made._before = list(self._before)
        return made

    def _is_thread(self, thing):
        """Whether thing is a thread of a table by its form."""
        if not isinstance(thing, tuple) or len(thing) != 2:
            return False
        return is_name(thing[0]) and thing[0] in self._by_name and is_key(thing[1])

    def _may_go(self, standing, thing):
        """Whether thing is a list of unlike threads whose rows stand."""
        if not isinstance(thing, list) or not all([self._is_thread(thread) for thread in thing]):
            return False
        return all([thread in standing for thread in thing]) and len(set(thing)) == len(thing)

    def _may_come(self, left, thing):
        """Whether thing is a list of rows with unlike threads, none of them among those that are left."""
        if not isinstance(thing, list) or not all([self._is_coming(pair) for pair in thing]):
            return False
        threads = [pair[0] for pair in thing]
        return not any([thread in left for thread in threads]) and len(set(threads)) == len(threads)

    def _is_coming(self, thing):
        """Whether thing is a thread of a table with a row of it that has all columns."""
        if not isinstance(thing, tuple) or len(thing) != 2 or not self._is_thread(thing[0]):
            return False
        table = self._by_name[thing[0][0]]
        return is_row(table, thing[1]) and len(thing[1]) == len(table[1])

    def _stands(self, going, comes):
        """The lists of the tables behind the turn."""
        stands = {}
        for name in self._by_name:
            left = [pair for pair in self._lists[name] if pair[0] not in going]
            stands[name] = sorted(left + [pair for pair in comes if pair[0][0] == name])
        return stands
