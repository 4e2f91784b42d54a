"""The house: what was told, what was allowed, what was asked, and what it is without whoever is forgotten."""

from asnevertold.errors import (
    Amid, Bare, NoEntry, NoFewest, NoModel, NoMoment, NoNumber, NoPermission, NoPerson, Refused,
)
from asnevertold.forgetting import fits, remade, renewed, total_of
from asnevertold.frame import Frame
from asnevertold.history import History
from asnevertold.ledger import Ledger
from asnevertold.models import are_models
from asnevertold.names import is_moment, is_name, is_whole_within
from asnevertold.permits import Book
from asnevertold.plans import look_at_name
from asnevertold.scenes import Scenes, learnt_of_rows
from asnevertold.showing import found_by, keys_with, leans, new_learnt, new_lists, shown_to
from asnevertold.tables import Looked, persons_of
from asnevertold.texts import show_rows
from asnevertold.weights import look_at_sum, sum_weights

MOST_FEWEST = 4


class House:
    """A house of data."""

    def __init__(self, tables, plan, *, models=None, fewest=1):
        looked = Looked(tables)
        self._tables = looked.by_name
        self._frame = Frame(tables, plan)
        if not are_models(self._frame.columns, models):
            raise NoModel()
        if not is_whole_within(fewest, 1, MOST_FEWEST):
            raise NoFewest()
        self._models = {name: models[name] for name in models or {}}
        self._fewest = fewest
        self._history = History(looked)
        self._book = Book()
        self._scenes = self._new_scenes(self._history, self._book)
        # What was asked, the moment last, by the sort of places that it has.
        self._asks = {"answer": [], "copy": [], "export": [], "sum": []}
        self._ledger = Ledger()
        self._copies_made = {}
        # The places of answers and sums that some forgetting remade.
        self._remade = {}
        # Of the forgetting under way the places not remade yet, and the report, None where none is under way.
        self._left = []
        self._report = None

    def __len__(self):
        return len(self._history)

    def __eq__(self, other):
        return isinstance(other, House) and self._alike() == other._alike()

    def tell(self, entry):
        """Let the entry in, or refuse it with NoEntry."""
        self._look_whether_amid()
        word = self._history.amiss(entry, self._least_known())
        if word is not None:
            raise NoEntry(word)
        self._history.let_in(entry)

    def allow(self, permission):
        """Let the permission in, or refuse it with NoPermission."""
        self._look_whether_amid()
        word = self._book.amiss(permission, self._least_known())
        if word is not None:
            raise NoPermission(word)
        self._book.let_in(permission)

    def history(self):
        """A twin of its History."""
        return self._history.twin()

    def book(self):
        """A twin of its Book."""
        return self._book.twin()

    def clock(self):
        """The greatest moment of all that it keeps."""
        return max(self._history.last_known(), self._book.last_known(), self._last_asked())

    def table(self, name, so, *, known=None):
        """The list of a table or of a name of the plan, so at a moment, as known at another."""
        look_at_name(self._frame.columns, name)
        return self._frame.list_of(name, self._history.stands(so, known=known))

    def derived(self, so, *, known=None):
        """The lists of all names, so at a moment, as known at another."""
        return self._frame.lists(self._history.stands(so, known=known))

    def model(self, name, so, *, known=None):
        """What the model of the name learns, so at a moment, as known at another."""
        look_at_name(self._models, name)
        source, model = self._models[name]
        rows = self._frame.list_of(source, self._history.stands(so, known=known))
        return learnt_of_rows(self._frame, source, rows, model)

    def found(self, name, column, so, *, known=None):
        """The keys of the rows of a table by their cells in a column, so at a moment, as known at another."""
        look_at_name(self._tables, name)
        place = self._frame.place_of(name, column)
        return found_by(self._history.rows_at(name, so, known=known), place)

    def serve(self, asker, purpose, name, at):
        """Answer the asker for the purpose with a list: told is the answer's number."""
        self._look_whether_amid()
        for person in (asker, purpose):
            if not is_name(person):
                raise NoPerson(person)
        look_at_name(self._frame.columns, name)
        return self._ask("answer", (asker, purpose, name, at))

    def copy(self, at):
        """Copy all lists and models: told is the copy's number."""
        self._look_whether_amid()
        number = self._ask("copy", (at,))
        self._copies_made[number] = True
        return number

    def export(self, name, at):
        """Export a list as a text: told is the export's number."""
        self._look_whether_amid()
        look_at_name(self._frame.columns, name)
        return self._ask("export", (name, at))

    def answer(self, number):
        """What the answer was asked with, and the list that it bears."""
        asker, purpose, name, at = self._asked("answer", number)
        self._look_whether_left(("answer",), number)
        return asker, purpose, name, at, list(self._scenes.lists(purpose, at)[name])

    def copied(self, number):
        """When the copy was asked, its lists and what its models learnt."""
        at = self._asked("copy", number)[0]
        self._look_whether_left(("copy", "model"), number)
        self._copies_made[number] = True
        return at, new_lists(self._scenes.lists(None, at)), new_learnt(self._scenes.learnt(at))

    def exported(self, number):
        """What the export was asked with, and its text."""
        name, at = self._asked("export", number)
        self._look_whether_left(("export",), number)
        return name, at, show_rows(self._scenes.lists(None, at)[name])

    def leaning(self, person, purpose):
        """The numbers of the answers for the purpose that lean on a row of the person."""
        self._look_whether_left(("answer",), None)
        if not is_name(person):
            raise NoPerson(person)
        if not is_name(purpose):
            return []
        keys = keys_with(self._history.entries(), person)
        told = []
        for number, (_, wanted, name, at) in enumerate(self._asks["answer"]):
            if wanted == purpose and leans(self._scenes.lists(purpose, at)[name], keys):
                told.append(number)
        return told

    def publish(self, name, column, at):
        """Let the sum of a column go out: told is the total; Refused where it would tell of too few."""
        self._look_whether_amid()
        look_at_sum(self._frame.columns, self._frame.plan, name, column)
        self._look_at_moment(at)
        # No scene is kept until the sum has gone out: entries of that moment may still come.
        lists = self._scenes.worked_out(None, at)
        there = sum_weights(self._frame.columns, self._frame.plan, lists, name, column)
        if there:
            combination = self._ledger.telling(there, self._history.persons_by_key(), self._fewest)
            if combination is not None:
                raise Refused(combination)
        self._ledger.put(there)
        self._ask("sum", (name, column, at))
        return total_of(lists[name], self._frame.places[name][column])

    def sums(self):
        """The sums that went out, in order: tuples (name, column, at, total)."""
        self._look_whether_left(("sum",), None)
        told = []
        for name, column, at in self._asks["sum"]:
            rows = self._scenes.lists(None, at)[name]
            told.append((name, column, at, total_of(rows, self._frame.places[name][column])))
        return told

    def forget(self, person):
        """Forget the person: told is the report."""
        self.begin(person)
        told = self.go_on()
        while self.is_amid():
            told = self.go_on()
        return told

    def begin(self, person):
        """Begin to forget the person: told are the places of what will be remade."""
        self._look_whether_amid()
        if not is_name(person):
            raise NoPerson(person)
        elder = self._history
        stay, gone, lacking = elder.parted([person])
        history, book = elder.with_entries(stay), self._book.without([person])
        scenes = self._new_scenes(history, book)
        places = remade(self._frame, self._models, self._asks, self._scenes, scenes)
        cells = fits(self._frame, self._asks, self._scenes, [elder.entry(key) for key in gone])
        self._ledger.part(person, {key: persons_of(elder.entry(key)[2] or ()) for key in gone})
        self._history, self._book, self._scenes = history, book, scenes
        self._left = [place for place, goes, comes in places]
        self._report = (gone, lacking, places, cells)
        return list(self._left)

    def go_on(self):
        """Remake one more place: told is the place, or, where none is left, the report."""
        if self._report is None:
            raise Bare()
        if self._left:
            place = self._left.pop(0)
            if place[0] in ("answer", "sum"):
                self._remade[place] = True
            return place
        report = self._report
        self._report = None
        return renewed(report)

    def is_amid(self):
        """Whether a forgetting is under way."""
        return self._report is not None

    def fall(self):
        """Lose what was made of copies, and all that was worked out."""
        self._copies_made = {}
        self._scenes = self._new_scenes(self._history, self._book)

    def made(self):
        """The numbers of the copies that are made."""
        return sorted(self._copies_made)

    def otherwise(self):
        """The places of the answers and sums that some forgetting remade."""
        return sorted(self._remade)

    def shown(self, person, so):
        """All that hangs on the person's rows so at a moment: tuples (name, what)."""
        if not is_name(person):
            raise NoPerson(person)
        lists = self.derived(so)
        return shown_to(person, lists, self._history.persons_by_key())

    def paper(self):
        """All that is kept: tuples (place, thing), sorted by place."""
        self._look_whether_amid()
        told = [(("entries",), self._history.entries()), (("permits",), self._book.permits())]
        for number, ask in enumerate(self._asks["copy"]):
            at = ask[0]
            bears = (at, new_lists(self._scenes.lists(None, at)), new_learnt(self._scenes.learnt(at)))
            told.append((("copy", number), bears))
        for number, ask in enumerate(self._asks["answer"]):
            told.append((("answer", number), (*ask, new_lists(self._scenes.lists(ask[1], ask[3])))))
        told.extend([(("export", number), self.exported(number)) for number in range(len(self._asks["export"]))])
        told.extend([(("sum", number), bears) for number, bears in enumerate(self.sums())])
        return sorted(told, key=lambda pair: pair[0])

    def twin(self):
        """A House alike, which goes on by itself."""
        made = House(self._frame.base, self._frame.plan, models=self._models, fewest=self._fewest)
        made._history, made._book = self._history.twin(), self._book.twin()
        made._scenes = self._scenes.twin(made._history, made._book)
        made._asks = {sort: list(asks) for sort, asks in self._asks.items()}
        made._ledger = self._ledger.twin()
        made._copies_made = {number: True for number in self._copies_made}
        made._remade = {place: True for place in self._remade}
        made._left = list(self._left)
        # What the report is made of is told renewed, so both may keep the same.
        made._report = self._report
        return made

    def _alike(self):
        """What a House has alike with another one."""
        return self._frame.base, self._frame.plan, self._models, self._history, self._book, self._asks

    def _new_scenes(self, history, book):
        """Scenes of which nothing is worked out yet."""
        return Scenes(self._frame, self._models, history, book)

    def _look_whether_amid(self):
        """Amid where a forgetting is under way."""
        if self.is_amid():
            raise Amid()

    def _look_whether_left(self, sorts, number):
        """Amid where a place of these sorts, and of the number, if not None, isn't remade yet."""
        if any([place[0] in sorts and (number is None or place[1] == number) for place in self._left]):
            raise Amid()

    def _last_asked(self):
        """The greatest moment of the asks, 0 of none."""
        return max([asks[-1][-1] for asks in self._asks.values() if asks], default=0)

    def _least_known(self):
        """The least known moment that an entry or a permission may have."""
        asked = any([asks != [] for asks in self._asks.values()])
        return max(self.clock(), self._last_asked() + 1 if asked else 0)

    def _look_at_moment(self, at):
        """NoMoment of what is no moment for an ask as of now."""
        if not is_moment(at) or at < self.clock():
            raise NoMoment(at)

    def _ask(self, sort, ask):
        """Keep an ask as of now: told is its number."""
        self._look_at_moment(ask[-1])
        self._asks[sort].append(ask)
        return len(self._asks[sort]) - 1

    def _asked(self, sort, number):
        """The ask of this sort that has the number."""
        if not is_whole_within(number, 0, len(self._asks[sort]) - 1):
            raise NoNumber(number)
        return self._asks[sort][number]
