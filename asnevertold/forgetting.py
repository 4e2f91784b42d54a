"""What a forgetting turns of what was asked, and what that still tells of what went.

Asks are a dict from `answer`, `copy`, `export` and `sum` to lists of tuples, each with what was asked, its moment last.
Before and after are the scenes ahead of the forgetting and behind it.
"""

from asnevertold.models import turns
from asnevertold.tables import read_row
from asnevertold.threads import rows_not_in

# All that a cell of a number column may be told as.
CELLS = (None, 0, 1, 2, 3, 4, 5, 6, 7, 8, 9)


def purpose_of(sort, ask):
    """The purpose whose allowed rows alone an ask of the sort bears, None of all rows."""
    return ask[1] if sort == "answer" else None


def total_of(rows, place):
    """The sum of the cells at the place but None."""
    return sum([row[place] for thread, row in rows if row[place] is not None])


def turned_list(place, one, other):
    """What of a list turned, as a report tells it: none or one."""
    if one == other:
        return []
    return [(place, rows_not_in(one, other), rows_not_in(other, one))]


def turned_answers(asks, before, after):
    """What turned of the answers."""
    told = []
    for number, (_, purpose, name, at) in enumerate(asks):
        told.extend(turned_list(("answer", number), before.lists(purpose, at)[name], after.lists(purpose, at)[name]))
    return told


def turned_copies(asks, before, after):
    """What turned of the copies' lists."""
    told = []
    for number, ask in enumerate(asks):
        at = ask[0]
        one, other = before.lists(None, at), after.lists(None, at)
        for name in sorted(one):
            told.extend(turned_list(("copy", number, name), one[name], other[name]))
    return told


def turned_exports(asks, before, after):
    """What turned of the exports."""
    told = []
    for number, (name, at) in enumerate(asks):
        told.extend(turned_list(("export", number), before.lists(None, at)[name], after.lists(None, at)[name]))
    return told


def turned_models(models, asks, before, after):
    """What turned of what the copies' models learnt."""
    told = []
    for number, ask in enumerate(asks):
        at = ask[0]
        for name in sorted(models):
            source, model = models[name]
            if before.lists(None, at)[source] != after.lists(None, at)[source]:
                goes = turns(model, before.learnt(at)[name], after.learnt(at)[name])
                if goes:
                    told.append((("model", number, name), goes, []))
    return told


def turned_sums(frame, asks, before, after):
    """What turned of the sums."""
    told = []
    for number, (name, column, at) in enumerate(asks):
        place = frame.places[name][column]
        one, other = [total_of(scenes.lists(None, at)[name], place) for scenes in (before, after)]
        if one != other:
            told.append((("sum", number), [one], [other]))
    return told


def remade(frame, models, asks, before, after):
    """All that turned: tuples (place, goes, comes), sorted by place."""
    for sort, there in asks.items():
        for ask in there:
            after.take_over(before, purpose_of(sort, ask), ask[-1])
    return [
        *turned_answers(asks["answer"], before, after),
        *turned_copies(asks["copy"], before, after),
        *turned_exports(asks["export"], before, after),
        *turned_models(models, asks["copy"], before, after),
        *turned_sums(frame, asks["sum"], before, after),
    ]


class Seen:
    """What went out of one scene: lists of some names, and sums of some of their columns."""

    def __init__(self, frame, lists, names, sums):
        self._frame = frame
        self._lists = lists
        self._names = names
        self._sums = [(name, place, total_of(lists[name], place)) for name, place in sums]
        self._steps = frame.steps_to([*names, *[name for name, place in sums]])

    def fitting(self, thread, row, place, cells):
        """Those of the cells with which at that place in the row of the thread all would be as it went out."""
        rows = self._lists[thread[0]]
        if (thread, row) not in rows:
            return cells
        if thread[0] in self._names:
            # The row went out itself.
            return [row[place]]
        at = rows.index((thread, row))
        return [cell for cell in cells if cell == row[place] or self._is_same(at, thread, with_cell(row, place, cell))]

    def _is_same(self, at, thread, row):
        """Whether all would be as it went out with the row of the thread, which is that one there, so."""
        rows = self._lists[thread[0]]
        stands = {thread[0]: [*rows[:at], (thread, row), *rows[at + 1:]]}
        lists = self._frame.relisted(self._lists, stands, self._steps)
        if any([lists[name] != self._lists[name] for name in self._names]):
            return False
        return all([total_of(lists[name], place) == total for name, place, total in self._sums])


def with_cell(row, place, cell):
    """The row with the cell at the place."""
    return (*row[:place], cell, *row[place + 1:])


def all_seen(frame, asks, before):
    """What went out by answers, exports and sums, scene by scene."""
    names, sums = {}, {}
    for sort in ("answer", "export", "sum"):
        for ask in asks[sort]:
            scene = (purpose_of(sort, ask), ask[-1])
            names.setdefault(scene, [])
            sums.setdefault(scene, [])
            if sort == "sum":
                sums[scene].append((ask[0], frame.places[ask[0]][ask[1]]))
            else:
                names[scene].append(ask[-2])
    return [Seen(frame, before.lists(*scene), names[scene], sums[scene]) for scene in names]


def fits(frame, asks, before, entries):
    """Of each number column of the entries that have a row: the cells with which all would be as it went out."""
    seen = all_seen(frame, asks, before)
    tables = {table[0]: table for table in frame.base}
    told = []
    for entry in entries:
        key, name, cells_told = entry[:3]
        if cells_told is None:
            continue
        row = read_row(tables[name], cells_told)
        for place, (column, kind, _) in enumerate(tables[name][1]):
            if kind == "number":
                cells = list(CELLS)
                for one in seen:
                    cells = one.fitting((name, key), row, place, cells)
                told.append((key, column, cells))
    return told


def renewed(report):
    """The report with lists of its own."""
    gone, lacking, places, cells = report
    return (
        list(gone),
        list(lacking),
        [(place, list(goes), list(comes)) for place, goes, comes in places],
        [(key, column, list(there)) for key, column, there in cells],
    )
