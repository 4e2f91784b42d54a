"""The judge of a paper, whoever wrote it, and the first trace of persons in one."""

from asnevertold.alike import is_just
from asnevertold.errors import NoPerson
from asnevertold.forgetting import total_of
from asnevertold.frame import Frame
from asnevertold.history import History
from asnevertold.names import are_names, is_moment, is_name
from asnevertold.permits import Book
from asnevertold.scenes import Scenes, learnt_by_name
from asnevertold.texts import show_rows
from asnevertold.threads import has_names, judged
from asnevertold.traces import cells_at
from asnevertold.weights import is_straight

# Of each sort of asks the place of the moment in what a paper tells of one.
MOMENTS = {"answer": 3, "copy": 0, "export": 1, "sum": 2}


def are_pairs(thing):
    """Whether thing is a list of tuples of two things."""
    return isinstance(thing, list) and all([isinstance(pair, tuple) and len(pair) == 2 for pair in thing])


def sort_of(place):
    """The word that a place begins with, None of anything that begins with none."""
    if isinstance(place, tuple) and place and isinstance(place[0], str):
        return place[0]
    return None


def are_places(things):
    """Whether the things are just the places of a paper, sorted."""
    words = [sort_of(place) for place in things]
    places = [("entries",), ("permits",)]
    for sort in MOMENTS:
        places.extend([(sort, number) for number in range(words.count(sort))])
    return is_just(sorted(places), things)


def fill(keeper, thing):
    """Whether thing is a list of what the keeper, a History or a Book, lets in, one by one."""
    if not isinstance(thing, list):
        return False
    for one in thing:
        if keeper.amiss(one, keeper.last_known()) is not None:
            return False
        keeper.let_in(one)
    return True


def do_fall(things, place):
    """Whether the moments at the place of the tuples among the things fall."""
    told = [thing[place] for thing in things if isinstance(thing, tuple) and len(thing) > place]
    moments = [moment for moment in told if is_moment(moment)]
    return moments != sorted(moments)


class Judge:
    """Entries and permissions that were let in, by which what was asked is judged."""

    def __init__(self, frame, models, history, book):
        self._frame = frame
        self._models = models
        self._scenes = Scenes(frame, models, history, book)

    def is_so(self, place, thing):
        """Whether the thing, anything, is what a house tells at the place."""
        if place[0] == "answer":
            return self._is_answer(thing)
        if place[0] == "copy":
            return self._is_copy(thing)
        if place[0] == "export":
            return self._is_export(thing)
        # The entries and the permissions were let in.
        return place[0] != "sum" or self._is_sum(thing)

    def _is_one_of_all(self, thing):
        """Whether thing is a name of a table or of the plan."""
        return is_name(thing) and thing in self._frame.columns

    def _is_answer(self, thing):
        """Whether thing is what an answer was asked with, and what is derived of the rows that are allowed."""
        if not isinstance(thing, tuple) or len(thing) != 5:
            return False
        asker, purpose, name, at, lists = thing
        if not is_name(asker) or not is_name(purpose) or not self._is_one_of_all(name) or not is_moment(at):
            return False
        return judged(self._frame, self._scenes.stands(purpose, at), lists)

    def _is_copy(self, thing):
        """Whether thing is a moment, what is derived of the rows then, and what the models learn of that."""
        if not isinstance(thing, tuple) or len(thing) != 3:
            return False
        at, lists, learnt = thing
        if not is_moment(at) or not judged(self._frame, self._scenes.stands(None, at), lists):
            return False
        if not has_names(self._models, learnt):
            return False
        told = learnt_by_name(self._frame, self._models, lists)
        return all([is_just(told[name], learnt[name]) for name in told])

    def _is_export(self, thing):
        """Whether thing is a name, a moment, and the text of its list then."""
        if not isinstance(thing, tuple) or len(thing) != 3:
            return False
        name, at, text = thing
        if not self._is_one_of_all(name) or not is_moment(at):
            return False
        return is_just(show_rows(self._scenes.lists(None, at)[name]), text)

    def _is_sum(self, thing):
        """Whether thing is a name, a straight column, a moment, and the total then."""
        if not isinstance(thing, tuple) or len(thing) != 4:
            return False
        name, column, at, total = thing
        if not self._is_one_of_all(name) or not is_moment(at):
            return False
        if not is_straight(self._frame.columns, dict(self._frame.plan), name, column):
            return False
        return is_just(total_of(self._scenes.lists(None, at)[name], self._frame.places[name][column]), total)


def amiss(tables, plan, models, thing):
    """The place of what is amiss first in thing, anything, as a paper of a house; None where nothing is."""
    if not are_pairs(thing) or not are_places([place for place, told in thing]):
        return ("form",)
    papers = {place: told for place, told in thing}
    history, book = History(tables), Book()
    if not fill(history, papers[("entries",)]) or not fill(book, papers[("permits",)]):
        return ("form",)
    for sort, at in MOMENTS.items():
        if do_fall([told for place, told in thing if place[0] == sort], at):
            return ("form",)
    judge = Judge(Frame(tables, plan), models or {}, history, book)
    for place, told in thing:
        if not judge.is_so(place, told):
            return place
    return None


def trace(thing, persons):
    """The first place of thing, anything, as a paper, at which one of the persons is found; None where none is."""
    if not are_names(persons):
        raise NoPerson(persons)
    if not isinstance(thing, list):
        return None
    for pair in thing:
        if isinstance(pair, tuple) and len(pair) == 2:
            if any([is_name(cell) and cell in persons for cell in cells_at(*pair)]):
                return pair[0]
    return None
