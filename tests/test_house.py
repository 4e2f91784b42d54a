import copy
import itertools
import unittest

from asnevertold.deriving import derived
from asnevertold.errors import (NoColumn, NoEntry, NoFewest, NoModel, NoMoment, NoNumber, NoPermission, NoPerson, NoPlan,
                                NoTable, NoTables)
from asnevertold.history import History
from asnevertold.house import House
from asnevertold.models import learn
from asnevertold.permits import Book
from asnevertold.plans import columns_of
from asnevertold.tables import persons_of
from asnevertold.texts import show_rows
from drawn import MODELS, NAMES, PLAN, TABLES, Drawing, do, drawn
from things import Likes, of_any_kind

MORE_NUMBERS = [-1, 1000, 10 ** 60, 2.0, "3", "ann", True, False]


def at(number, name, row, known, rights=None, *, since=0, till=None, cause=None):
    """An entry."""
    keys = [None if other is None else ("s", other) for other in (rights, cause)]
    return ("s", number), name, row, since, till, known, *keys


def allow(person, known, purpose="care", word="allow", since=0, till=None):
    """A permission."""
    return person, purpose, word, since, till, known


FIRST = at(0, "visit", ("ann", 1, 5), 2)
SECOND = at(1, "stay", ("ann", "bob", 3), 3)
THIRD = at(2, "visit", ("bob", 2), 4, since=3, till=8)


def empty(**more):
    """A house that was told nothing."""
    return House(TABLES, PLAN, **more)


def three(**more):
    """A house with three entries, two permissions, and no ask."""
    house = empty(**more)
    for entry in (FIRST, SECOND, THIRD):
        house.tell(entry)
    house.allow(allow("ann", 4))
    house.allow(allow("bob", 5))
    return house


def v(number):
    """The thread of a visit."""
    return ("visit", ("s", number))


class Made(unittest.TestCase):
    def test_refusals_in_their_order(self):
        bad = {"tables": list(TABLES), "plan": (1,), "models": {"visit": ("visit", ("shares", "who"))}, "fewest": 5}
        good = {"tables": TABLES, "plan": PLAN, "models": MODELS, "fewest": 2}
        refusals = {"tables": NoTables, "plan": NoPlan, "models": NoModel, "fewest": NoFewest}
        for many in range(1, 5):
            for words in itertools.combinations(bad, many):
                self.assertRaises(refusals[words[0]], House, **{**good, **{word: bad[word] for word in words}})
        self.assertEqual(len(House(**good)), 0)

    def test_no_tables_no_plan(self):
        for thing in of_any_kind() + [list(TABLES), TABLES[0], TABLES + TABLES[:1]]:
            self.assertRaises(NoTables, House, thing, PLAN)
        for thing in of_any_kind() + [list(PLAN), PLAN[0], PLAN + PLAN[:1]]:
            if thing != ():
                self.assertRaises(NoPlan, House, TABLES, thing)

    def test_no_model(self):
        shares = ("visit", ("shares", "who"))
        for thing in of_any_kind()[1:] + [MODELS["shares"], list(MODELS), 0, "shares", [("shares", shares)]]:
            if not (isinstance(thing, dict) and not thing):
                with self.subTest(thing=repr(thing)):
                    self.assertRaises(NoModel, empty, models=thing)
        for name in [None, True, 0, 1.0, "", "Ann", "abcdefghi", ("m",), "visit", "dear", b"m"]:
            self.assertRaises(NoModel, empty, models={**MODELS, name: shares})
        for told in of_any_kind() + [list(shares), shares[:1], shares + (None,), (shares,), ("none", shares[1]),
                                     (["visit"], shares[1]), ("visit", ["shares", "who"]), ("visit", ("shares", "night")),
                                     ("visit", ("pairs", ("who", "day"), True)), ("m", ("shares", "who"))]:
            self.assertRaises(NoModel, empty, models={"m": told})

    def test_no_fewest(self):
        for thing in of_any_kind() + [0, 5, -1, "2", (2,), 10 ** 60]:
            self.assertRaises(NoFewest, empty, fewest=thing)
        for fewest in (1, 2, 3, 4):
            self.assertEqual(len(empty(fewest=fewest)), 0)

    def test_without_models_and_without_a_plan(self):
        self.assertEqual(empty(), empty(models={}))
        for models in (None, {}):
            house = empty(models=models)
            self.assertEqual(house.copied(house.copy(0)), (0, house.derived(0), {}))
        house = House(TABLES, ())
        house.tell(FIRST)
        self.assertEqual(list(house.derived(2)), ["visit", "stay", "mark"])
        self.assertRaises(NoTable, house.table, "dear", 2)

    def test_models_that_are_handed_in_are_not_kept(self):
        models = dict(MODELS)
        house = empty(models=models)
        models.clear()
        self.assertEqual(house, empty(models=MODELS))
        self.assertEqual(set(house.copied(house.copy(0))[2]), set(MODELS))


class Tells(unittest.TestCase):
    def refused(self, house, entry, word):
        kept, clock = house.twin(), house.clock()
        with self.assertRaises(NoEntry) as caught:
            house.tell(entry)
        self.assertEqual(caught.exception.word, word)
        self.assertEqual((house, house.clock(), len(house)), (kept, clock, len(kept)))

    def refused_permission(self, house, permission, word):
        kept, clock = house.twin(), house.clock()
        with self.assertRaises(NoPermission) as caught:
            house.allow(permission)
        self.assertEqual(caught.exception.word, word)
        self.assertEqual((house, house.clock(), house.book()), (kept, clock, kept.book()))

    def test_what_is_let_in(self):
        house = three()
        self.assertEqual(house.history().entries(), [FIRST, SECOND, THIRD])
        self.assertEqual(house.book().permits(), [allow("ann", 4), allow("bob", 5)])
        self.assertEqual((house.tell(at(3, "mark", (1,), 5)), house.allow(allow("cid", 5))), (None, None))
        self.assertEqual((len(house), house.history().tables()), (4, TABLES))

    def test_refused_as_a_history_and_a_book_do(self):
        for thing in of_any_kind() + [FIRST[:-1], list(FIRST)]:
            self.refused(three(), thing, "form")
            self.refused_permission(three(), thing, "form")
        for entry, word in ((at(3, "none", (1,), 5), "table"), (at(3, "mark", ("ann",), 5), "row"),
                            (at(0, "mark", (1,), 5), "key"), (at(3, "mark", (1,), 5, 0), "rights"),
                            (at(3, "mark", (1,), 5, cause=7), "cause")):
            self.refused(three(), entry, word)

    def test_known_is_not_less_than_the_clock(self):
        # The last entry is known at 4, the last permission at 5.
        for known, good in ((3, False), (4, False), (5, True), (6, True)):
            house = three()
            if good:
                house.tell(at(3, "mark", (1,), known))
                house.allow(allow("ann", known))
            else:
                self.refused(house, at(3, "mark", (1,), known), "known")
                self.refused_permission(house, allow("ann", known), "known")
        house = three()
        house.tell(at(3, "mark", (1,), 7))
        self.refused_permission(house, allow("ann", 6), "known")
        house.allow(allow("ann", 7))

    def test_known_is_greater_than_the_moment_of_each_ask(self):
        asks = (("serve", ("eve", "care", "visit", 6)), ("copy", (6,)), ("export", ("visit", 6)),
                ("publish", ("visit", "cost", 6)))
        for ask in asks:
            house = three()
            do(house, *ask)
            for known in (4, 5, 6):
                self.refused(house, at(3, "mark", (1,), known), "known")
                self.refused_permission(house, allow("ann", known), "known")
            house.twin().tell(at(3, "mark", (1,), 7))
            house.allow(allow("ann", 7))
            house.tell(at(3, "mark", (1,), 7))
        house = empty()
        house.copy(0)
        self.refused(house, at(0, "mark", (1,), 0), "known")
        house.tell(at(0, "mark", (1,), 1))

    def test_the_word_known_in_its_place(self):
        house = three()
        house.copy(6)
        for fault, word in ((("none", (1,)), "table"), (("mark", ("x",)), "row")):
            self.refused(house, at(3, *fault, 6), word)
        self.refused(house, at(0, "mark", (1,), 6), "key")
        self.refused(house, at(3, "mark", (1,), 6, 0), "known")
        self.refused(house, at(3, "mark", (1,), 6, cause=9), "known")
        self.refused(house, at(3, "mark", (1,), 7, 0), "rights")
        self.refused_permission(house, allow("Ann", 6), "form")

    def test_clock(self):
        house = empty()
        self.assertEqual(house.clock(), 0)
        for deed, told, clock in (("tell", (FIRST,), 2), ("allow", (allow("ann", 4),), 4), ("copy", (4,), 4),
                                  ("export", ("mark", 7),  7), ("tell", (at(5, "mark", (1,), 9),), 9),
                                  ("serve", ("a", "b", "visit", 9), 9), ("publish", ("visit", "day", 11), 11)):
            do(house, deed, told)
            self.assertEqual(house.clock(), clock)

    def test_moments_of_asks(self):
        house = three()
        asks = (lambda moment: house.serve("eve", "care", "visit", moment), house.copy,
                lambda moment: house.export("visit", moment), lambda moment: house.publish("visit", "cost", moment))
        kept = house.twin()
        for ask in asks:
            for moment in of_any_kind() + MORE_NUMBERS + [0, 4]:
                with self.assertRaises(NoMoment) as caught:
                    ask(moment)
                self.assertIs(caught.exception.thing, moment)
        self.assertEqual((house, house.clock(), house.made()), (kept, 5, []))
        for ask in asks:
            ask(5)
            ask(5)
        for ask in asks:
            ask(999)
        self.assertEqual(house.clock(), 999)
        for ask in asks:
            self.assertRaises(NoMoment, ask, 998)


class Known(unittest.TestCase):
    def test_lists_are_those_of_the_history(self):
        for seed in range(25):
            house, _, _ = drawn(seed)
            history = house.history()
            for so, known in itertools.product((0, 3, 8, 20), (None, 0, 4, 9)):
                whole = derived(TABLES, PLAN, history.stands(so, known=known))
                self.assertEqual(house.derived(so, known=known), whole)
                self.assertEqual(list(house.derived(so, known=known)), list(NAMES))
                for name in NAMES:
                    self.assertEqual(house.table(name, so, known=known), whole[name])
                for name, (source, model) in MODELS.items():
                    rows = [row for _, row in whole[source]]
                    learnt = learn(columns_of(TABLES, PLAN, source), rows, model)
                    self.assertEqual(house.model(name, so, known=known), learnt)

    def test_as_known_is_as_told_just_what_was_known_then(self):
        for seed in range(25):
            house, _, _ = drawn(seed, 20)
            for known in range(0, house.clock() + 1, 2):
                then = empty(models=MODELS)
                for entry in house.history().entries():
                    if entry[5] <= known:
                        then.tell(entry)
                for so in (0, 4, 9):
                    self.assertEqual(house.derived(so, known=known), then.derived(so))
                    self.assertEqual(house.model("tree", so, known=known), then.model("tree", so))
                    self.assertEqual(house.found("stay", "host", so, known=known), then.found("stay", "host", so))

    def test_found(self):
        house = three()
        house.tell(at(9, "visit", ("ann",), 6))
        house.tell(at(5, "visit", (None, 0, 5), 7))
        self.assertEqual(house.found("visit", "who", 4), {None: [("s", 5)], "ann": [("s", 0), ("s", 9)], "bob": [("s", 2)]})
        self.assertEqual(house.found("visit", "cost", 4), {None: [("s", 2), ("s", 9)], 5: [("s", 0), ("s", 5)]})
        self.assertEqual(house.found("visit", "day", 9), {0: [("s", 5), ("s", 9)], 1: [("s", 0)]})
        self.assertEqual(house.found("visit", "who", 4, known=4), {"ann": [("s", 0)], "bob": [("s", 2)]})
        self.assertEqual(list(house.found("visit", "who", 4)), [None, "ann", "bob"])
        self.assertEqual(list(house.found("visit", "cost", 4)), [None, 5])
        self.assertEqual(house.found("mark", "by", 4), {})
        house.tell((("a", 7), "visit", ("ann", 9, 0), 0, None, 8, None, None))
        self.assertEqual(list(house.found("visit", "day", 4)), [0, 1, 2, 9])
        self.assertEqual(house.found("visit", "who", 4)["ann"], [("a", 7), ("s", 0), ("s", 9)])

    def test_refusals_from_left_to_right(self):
        house = three(models=MODELS)
        for name in of_any_kind() + ["none", "shares", 0, ["visit"]]:
            for so in (0, None, True):
                with self.assertRaises(NoTable) as caught:
                    house.table(name, so, known=True)
                self.assertIs(caught.exception.name, name)
        for name in of_any_kind() + ["none", "visit", "dear", ["shares"]]:
            with self.assertRaises(NoTable) as caught:
                house.model(name, None)
            self.assertIs(caught.exception.name, name)
        for name in of_any_kind() + ["none", "dear", "shares", ("visit",)]:
            with self.assertRaises(NoTable) as caught:
                house.found(name, None, None)
            self.assertIs(caught.exception.name, name)
        for column in of_any_kind() + ["none", "night", ["who"], 0]:
            with self.assertRaises(NoColumn) as caught:
                house.found("visit", column, None)
            self.assertIs(caught.exception.name, column)

    def test_no_moment(self):
        house = three(models=MODELS)
        asks = (lambda so, known: house.table("dear", so, known=known), lambda so, known: house.derived(so, known=known),
                lambda so, known: house.model("tree", so, known=known),
                lambda so, known: house.found("visit", "who", so, known=known))
        for ask in asks:
            for so in of_any_kind() + MORE_NUMBERS:
                for known in (None, 0, True):
                    with self.assertRaises(NoMoment) as caught:
                        ask(so, known)
                    self.assertIs(caught.exception.thing, so)
            for known in of_any_kind()[1:] + MORE_NUMBERS:
                with self.assertRaises(NoMoment) as caught:
                    ask(0, known)
                self.assertIs(caught.exception.thing, known)


class Asks(unittest.TestCase):
    def test_numbers_among_their_sort(self):
        house = three()
        self.assertEqual([house.serve("eve", "care", "visit", 5), house.copy(5), house.export("visit", 5),
                          house.serve("ann", "ads", "dear", 5), house.export("dear", 6), house.copy(7)],
                         [0, 0, 0, 1, 1, 1])
        self.assertEqual([house.answer(number)[:4] for number in (0, 1)],
                         [("eve", "care", "visit", 5), ("ann", "ads", "dear", 5)])
        self.assertEqual([house.exported(number)[:2] for number in (0, 1)], [("visit", 5), ("dear", 6)])
        self.assertEqual([house.copied(number)[0] for number in (0, 1)], [5, 7])

    def test_an_answer_has_the_allowed_rows_alone(self):
        house = three()
        for name in ("visit", "stay", "beside"):
            house.serve("eve", "care", name, 5)
            house.serve("eve", "ads", name, 5)
        self.assertEqual(house.answer(0)[4], [(v(0), ("ann", 1, 5)), (v(2), ("bob", 2, None))])
        self.assertEqual([house.answer(number)[4] for number in (1, 3, 5)], [[], [], []])
        self.assertEqual(house.answer(2)[4], [(("stay", ("s", 1)), ("ann", "bob", 3))])
        house.allow(allow("bob", 6, word="withdraw"))
        for name in ("visit", "stay", "beside"):
            house.serve("eve", "care", name, 6)
        self.assertEqual(house.answer(6)[4], [(v(0), ("ann", 1, 5))])
        self.assertEqual(house.answer(7)[4], [])
        self.assertEqual(house.answer(8)[4], [(("beside", (v(0),)), ("ann", 1, 5, None, None))])
        # What went out stays as it went out.
        self.assertEqual(len(house.answer(0)[4]), 2)

    def test_allowed_at_that_moment_as_known_then(self):
        house = empty()
        house.tell(FIRST)
        house.allow(allow("ann", 3, since=5, till=7))
        for moment in (4, 5, 6, 7):
            house.serve("eve", "care", "visit", moment)
        self.assertEqual([len(house.answer(number)[4]) for number in range(4)], [0, 1, 1, 0])
        house.allow(allow("ann", 8))
        self.assertEqual([len(house.answer(number)[4]) for number in range(4)], [0, 1, 1, 0])

    def test_rows_without_persons_are_allowed(self):
        house = empty()
        house.tell(at(0, "mark", (5,), 0))
        house.tell(at(1, "mark", (5, "ann"), 0))
        house.serve("eve", "care", "mark", 0)
        self.assertEqual(house.answer(0)[4], [(("mark", ("s", 0)), (5, None))])

    def test_what_puts_right_has_put_right_allowed_or_not(self):
        house = empty()
        house.tell(FIRST)
        house.allow(allow("ann", 2))
        house.tell(at(1, "visit", ("cid", 1, 1), 3, 0))
        house.serve("eve", "care", "visit", 3)
        self.assertEqual(house.answer(0)[4], [])

    def test_no_answer_leans_on_a_row_that_was_not_allowed(self):
        leant = 0
        for seed in range(120):
            house, done, _ = drawn(seed, 24)
            history, book = house.history(), house.book()
            for number in range(sum(deed == "serve" for deed, _ in done)):
                _, purpose, name, moment, rows = house.answer(number)
                stands = history.stands(moment, known=moment)
                left = {table: [pair for pair in there if all(
                    book.allows(person, purpose, moment, known=moment) for person in persons_of(pair[1]))]
                    for table, there in stands.items()}
                self.assertEqual(rows, derived(TABLES, PLAN, left)[name])
                leant += len(rows)
        self.assertGreater(leant, 100)

    def test_copies(self):
        for seed in range(25):
            house, done, _ = drawn(seed, 20)
            for number in range(sum(deed == "copy" for deed, _ in done)):
                moment, lists, learnt = house.copied(number)
                self.assertEqual(lists, house.derived(moment, known=moment))
                self.assertEqual(learnt, {name: house.model(name, moment, known=moment) for name in MODELS})

    def test_exports(self):
        for seed in range(25):
            house, done, _ = drawn(seed, 20)
            for number in range(sum(deed == "export" for deed, _ in done)):
                name, moment, text = house.exported(number)
                self.assertEqual(text, show_rows(house.table(name, moment, known=moment)))
        house = empty()
        house.export("visit", 0)
        self.assertEqual(house.exported(0), ("visit", 0, ""))

    def test_refusals_from_left_to_right(self):
        house = three()
        kept = house.twin()
        for thing in of_any_kind() + ["Ann", 0, ["eve"]]:
            if not (isinstance(thing, str) and thing == "ann"):
                for ask, due in ((lambda: house.serve(thing, None, None, None), NoPerson),
                                 (lambda: house.serve("eve", thing, None, None), NoPerson)):
                    with self.assertRaises(due) as caught:
                        ask()
                    self.assertIs(caught.exception.thing, thing)
            for ask in (lambda: house.serve("eve", "care", thing, None), lambda: house.export(thing, None)):
                with self.assertRaises(NoTable) as caught:
                    ask()
                self.assertIs(caught.exception.name, thing)
        self.assertRaises(NoTable, house.export, "shares", 5)
        self.assertEqual((house, house.clock()), (kept, 5))

    def test_no_number(self):
        house = three()
        house.serve("eve", "care", "visit", 5)
        house.copy(5)
        house.export("visit", 5)
        for ask in (house.answer, house.copied, house.exported):
            ask(0)
            for thing in of_any_kind() + [1, -1, 10 ** 60, "0", (0,), [0], 0.0]:
                with self.assertRaises(NoNumber) as caught:
                    ask(thing)
                self.assertIs(caught.exception.thing, thing)
        for ask in (empty().answer, empty().copied, empty().exported):
            self.assertRaises(NoNumber, ask, 0)

    def test_who_leans(self):
        house = three()
        for purpose, name in (("care", "visit"), ("care", "stay"), ("ads", "visit"), ("care", "beside"), ("care", "mark")):
            house.serve("eve", purpose, name, 5)
        self.assertEqual(house.leaning("ann", "care"), [0, 1, 3])
        self.assertEqual(house.leaning("bob", "care"), [0, 1, 3])
        for person, purpose in (("ann", "ads"), ("eve", "care"), ("cid", "care"), ("ann", "none")):
            self.assertEqual(house.leaning(person, purpose), [])
        # A permission that is withdrawn changes nothing of what went out: it is told who leans.
        house.allow(allow("ann", 6, word="withdraw"))
        house.serve("eve", "care", "visit", 6)
        self.assertEqual(house.leaning("ann", "care"), [0, 1, 3])
        self.assertEqual(house.leaning("bob", "care"), [0, 1, 3, 5])

    def test_leaning_as_the_threads_tell(self):
        found = 0
        for seed in range(80):
            house, done, _ = drawn(seed, 24)
            rows = {entry[0]: persons_of(entry[2] or ()) for entry in house.history().entries()}
            for person, purpose in itertools.product(("ann", "bob", "eve"), ("care", "ads")):
                wanted = []
                for number in range(sum(deed == "serve" for deed, _ in done)):
                    _, told, _, _, there = house.answer(number)
                    text = [str(key) for key in rows if person in rows[key]]
                    if told == purpose and any(key in str(thread) for thread, _ in there for key in text):
                        wanted.append(number)
                self.assertEqual(house.leaning(person, purpose), wanted)
                found += len(wanted)
        self.assertGreater(found, 30)

    def test_leaning_of_anything(self):
        house = three()
        house.serve("eve", "care", "visit", 5)
        for thing in of_any_kind() + ["Ann", 0, ["ann"]]:
            if not (isinstance(thing, str) and thing == "ann"):
                for purpose in ("care", None):
                    with self.assertRaises(NoPerson) as caught:
                        house.leaning(thing, purpose)
                    self.assertIs(caught.exception.thing, thing)
            self.assertEqual(house.leaning("ann", thing), [])


class Own(unittest.TestCase):
    def test_told_is_new(self):
        house, done, _ = drawn(3, 30)
        self.assertEqual({deed for deed, _ in done}, {"tell", "allow", "serve", "copy", "export", "publish"})
        kept, whole = house.twin(), house.paper()
        for told in (house.derived(5), house.copied(0)[1], house.copied(0)[2], house.found("visit", "who", 5)):
            for rows in told.values():
                if isinstance(rows, list):
                    rows.clear()
            told.clear()
        for told in (house.table("visit", 5), house.model("shares", 5), house.answer(0)[4], house.sums(), house.made(),
                     house.otherwise(), house.shown("ann", 5), house.leaning("ann", "care"), house.history().entries(),
                     house.book().permits()):
            told.clear()
        for _, thing in house.paper():
            if isinstance(thing, list):
                thing.clear()
            elif isinstance(thing, tuple):
                for part in thing:
                    if isinstance(part, dict):
                        for rows in part.values():
                            if isinstance(rows, list):
                                rows.clear()
                        part.clear()
        self.assertEqual((house, house.paper(), house.made()), (kept, whole, kept.made()))

    def test_history_and_book_are_twins(self):
        house = three()
        house.history().put(at(9, "mark", (1,), 9))
        house.book().put(allow("cid", 9))
        self.assertEqual((len(house), house.clock()), (3, 5))
        self.assertEqual((type(house.history()), type(house.book())), (History, Book))

    def test_likeness(self):
        self.assertEqual(three(), three())
        self.assertEqual(three(fewest=1), three(fewest=4))
        self.assertEqual(three(models=MODELS), three(models={name: MODELS[name] for name in sorted(MODELS)[::-1]}))
        self.assertNotEqual(three(), three(models=MODELS))
        self.assertNotEqual(three(models=MODELS), three(models={**MODELS, "shares": ("visit", ("shares", "day"))}))
        self.assertNotEqual(empty(), House(TABLES, PLAN[:-1]))
        self.assertNotEqual(House(TABLES, ()), House(TABLES[::-1], ()))
        deeds = (("tell", (at(3, "mark", (1,), 5),)), ("allow", (allow("cid", 5),)), ("copy", (5,)),
                 ("serve", ("eve", "care", "visit", 5)), ("serve", ("eva", "care", "visit", 5)),
                 ("export", ("visit", 5)), ("export", ("stay", 5)), ("publish", ("visit", "cost", 5)),
                 ("publish", ("visit", "day", 5)), ("copy", (6,)))
        for one, other in itertools.product(deeds, deeds):
            a, b = three(), three()
            do(a, *one)
            do(b, *other)
            self.assertIs(a == b, one == other)
            self.assertIs(a != b, one != other)
        # Asks of two sorts are told each for itself.
        a, b = three(), three()
        a.copy(5), a.export("visit", 5), b.export("visit", 5), b.copy(5)
        self.assertEqual(a, b)

    def test_likens_no_other_kind(self):
        for thing in of_any_kind() + [Likes(), History(TABLES), Book(), TABLES]:
            self.assertIs(empty() == thing, False)
            self.assertIs(empty() != thing, True)

    def test_twin_goes_on_by_itself(self):
        for seed in range(20):
            house, done, drawing = drawn(seed)
            twin = house.twin()
            self.assertEqual((twin, twin.paper(), twin.made()), (house, house.paper(), house.made()))
            kept, paper = house.twin(), house.paper()
            twin.copy(twin.clock())
            twin.tell(at(9999, "mark", (1,), twin.clock() + 1))
            twin.forget("ann")
            twin.fall()
            self.assertEqual((house, house.paper(), house.made()), (kept, paper, kept.made()))
            self.assertNotEqual(twin, house)

    def test_what_is_handed_in_stays(self):
        entry, permission = copy.deepcopy((at(3, "mark", (1,), 5), allow("cid", 5)))
        house = three()
        house.tell(entry=entry)
        house.allow(permission=permission)
        self.assertEqual((entry, permission), (at(3, "mark", (1,), 5), allow("cid", 5)))

    def test_by_the_names_of_the_interface(self):
        house = House(tables=TABLES, plan=PLAN, models=MODELS, fewest=1)
        house.tell(entry=FIRST)
        house.allow(permission=allow("ann", 4))
        self.assertEqual(house.serve(asker="eve", purpose="care", name="visit", at=4), 0)
        self.assertEqual((house.copy(at=4), house.export(name="visit", at=4)), (0, 0))
        self.assertEqual(house.publish(name="visit", column="cost", at=4), 5)
        self.assertEqual(house.table(name="visit", so=4, known=4), house.answer(number=0)[4])
        self.assertEqual(house.derived(so=4, known=4), house.copied(number=0)[1])
        self.assertEqual(house.exported(number=0)[0], "visit")
        self.assertEqual(house.model(name="shares", so=4, known=4), [("ann", 1, 1)])
        self.assertEqual(house.found(name="visit", column="who", so=4, known=4), {"ann": [("s", 0)]})
        self.assertEqual(house.leaning(person="ann", purpose="care"), [0])
        self.assertEqual(house.shown(person="ann", so=4)[0], ("visit", ("ann", 1, 5)))
        house.begin(person="bob")
        house.go_on()
        self.assertEqual(house.forget(person="bob"), ([], [], [], []))
        for ask in (lambda: house.table("visit", 4, 4), lambda: house.derived(4, 4), lambda: house.model("shares", 4, 4),
                    lambda: house.found("visit", "who", 4, 4), lambda: House(TABLES, PLAN, MODELS)):
            self.assertRaises(TypeError, ask)

    def test_asked_twice_alike_is_told_alike(self):
        house, _, _ = drawn(3, 30)
        for _ in range(2):
            self.assertEqual(house.paper(), house.paper())
            self.assertEqual(house.answer(0), house.answer(0))
            self.assertEqual(house.copied(0), house.copied(0))


class Called(unittest.TestCase):
    def test_persons_called_otherwise(self):
        otherwise = {"ann": "zoe", "bob": "ann", "cid": "bob", "dan": "mia", "eve": "a", None: None}
        for seed in range(25):
            one, _, drawing = drawn(seed, 20)
            done = [(deed, told) for deed, told in drawn(seed, 20)[1]]
            other = House(TABLES, PLAN, models=MODELS)
            for deed, told in done:
                do(other, deed, tuple(called(thing, otherwise) for thing in told))
            self.assertEqual(other.history().entries(), [called(entry, otherwise) for entry in one.history().entries()])
            for so in (0, 5, 9):
                self.assertEqual(other.derived(so), called(one.derived(so), otherwise))
                found = {otherwise[cell]: keys for cell, keys in one.found("visit", "who", so).items()}
                self.assertEqual(other.found("visit", "who", so), found)
            self.assertEqual(other.sums(), one.sums())
            told, wanted = other.forget("zoe"), one.forget("ann")
            self.assertEqual((told[:2], told[3]), (wanted[:2], wanted[3]))
            lists = [turned for turned in wanted[2] if turned[0][0] != "model"]
            self.assertEqual([turned for turned in told[2] if turned[0][0] != "model"], called(lists, otherwise))

    def test_tables_derivings_columns_and_sources_called_otherwise(self):
        tables, plan, models = all_called(NEW)
        for seed in range(60):
            one, done, _ = drawn(seed, 20)
            other = House(tables, plan, models=models)
            for deed, told in done:
                # A purpose is called as it was.
                do(other, deed, tuple(called(thing, NEW) for thing in told))
            for so in (0, 5, 9):
                self.assertEqual(other.derived(so), called(one.derived(so), NEW))
                for name in MODELS:
                    self.assertEqual(other.model(name, so), called(one.model(name, so), NEW))
                self.assertEqual(other.shown("ann", so), called(one.shown("ann", so), NEW))
                self.assertEqual(other.found(NEW["visit"], NEW["who"], so), called(one.found("visit", "who", so), NEW))
            self.assertEqual(other.sums(), called(one.sums(), NEW))
            for number in range(sum(deed == "export" for deed, _ in done)):
                name, moment, text = one.exported(number)
                rows = called(one.table(name, moment, known=moment), NEW)
                self.assertEqual(other.exported(number), (NEW[name], moment, show_rows(rows)))
            for number in range(sum(deed == "serve" for deed, _ in done)):
                self.assertEqual(other.answer(number), called(one.answer(number), NEW))
            told, wanted = other.forget("ann"), called(one.forget("ann"), NEW)
            self.assertEqual((told[:2], told[3]), (wanted[:2], wanted[3]))
            # What turned of pairs is sorted by the columns' names, so it is sorted anew.
            self.assertEqual(*[[(place, sorted(goes, key=repr), comes) for place, goes, comes in report[2]]
                               for report in (told, wanted)])
            self.assertEqual(other.otherwise(), one.otherwise())


# The names of tables and derivings, and of sources, stay in their order; columns are called anyhow.
NEW = {**{name: "n" + "abcdefghijklmnop"[place] for place, name in enumerate(sorted(NAMES))}, "a": "v", "b": "w",
       **{name: "c" + "zyxwvutsr"[place] for place, name in enumerate(
           ("who", "day", "cost", "guest", "host", "night", "grade", "by", "rest"))}}


def all_called(new):
    """The tables, the plan and the models, called otherwise, words as they are."""
    def of(*places):
        return lambda told: tuple(called(one, new) if place in places else one for place, one in enumerate(told))

    derivings = {"keep": of(1, 2), "outer": of(1, 2, 3, 4), "more": of(1, 2, 3, 5), "group": of(1, 2, 4),
                 "window": of(1, 2, 3, 5), "first": of(1, 2, 3), "both": of(1, 2)}
    kinds = {"shares": of(1), "pairs": of(1), "tree": of(1, 2), "lots": of(1)}
    tables = tuple((new[name], tuple((new[column], *told) for column, *told in columns), rule)
                   for name, columns, rule in TABLES)
    plan = tuple((new[name], derivings[deriving[0]](deriving)) for name, deriving in PLAN)
    return tables, plan, {name: (new[source], kinds[model[0]](model)) for name, (source, model) in MODELS.items()}


def called(thing, otherwise):
    """The thing with all that is called otherwise in whatever it has."""
    if isinstance(thing, str) or thing is None:
        return otherwise.get(thing, thing)
    if isinstance(thing, dict):
        return {called(name, otherwise): called(told, otherwise) for name, told in thing.items()}
    if isinstance(thing, (list, tuple)):
        return type(thing)([called(one, otherwise) for one in thing])
    return thing


if __name__ == "__main__":
    unittest.main()
