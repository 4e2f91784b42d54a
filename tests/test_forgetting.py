import itertools
import random
import unittest

from asnevertold.errors import Amid, Bare, NoPerson
from asnevertold.history import History
from asnevertold.house import House
from asnevertold.models import turns
from asnevertold.paper import amiss, trace
from asnevertold.tables import read_row
from drawn import MODELS, PLAN, TABLES, all_borne, bears, count, do, drawn, house_of, more, never_told
from things import of_any_kind


def at(number, name, row, known, rights=None, cause=None):
    """An entry."""
    keys = [None if other is None else ("s", other) for other in (rights, cause)]
    return ("s", number), name, row, 0, None, known, *keys


def three():
    """A house with three entries, and of each sort one ask."""
    house = House(TABLES, PLAN, models=MODELS)
    house.tell(at(0, "visit", ("ann", 1, 5), 0))
    house.tell(at(1, "visit", ("bob", 2, 3), 0))
    house.tell(at(2, "stay", ("ann", "bob", 3), 0))
    house.allow(("ann", "care", "allow", 0, None, 0))
    house.allow(("bob", "care", "allow", 0, None, 0))
    house.serve("ann", "care", "visit", 1)
    house.copy(1)
    house.export("stay", 1)
    house.publish("visit", "cost", 1)
    return house


def v(number):
    """The thread of a visit."""
    return ("visit", ("s", number))


STAY = ("stay", ("s", 2))


class Report(unittest.TestCase):
    def test_by_hand(self):
        house = three()
        gone, lacking, remade, fits = house.forget("ann")
        self.assertEqual((gone, lacking), ([("s", 0)], [("s", 2)]))
        told = dict((place, (goes, comes)) for place, goes, comes in remade)
        self.assertEqual(list(told), sorted(told))
        self.assertEqual(told["answer", 0], ([(v(0), ("ann", 1, 5))], []))
        self.assertEqual(told["copy", 0, "stay"], ([(STAY, ("ann", "bob", 3))], [(STAY, (None, "bob", 3))]))
        self.assertEqual(told["copy", 0, "beside"],
                         ([(("beside", (v(0), STAY)), ("ann", 1, 5, "bob", 3))], []))
        self.assertEqual(told["export", 0], told["copy", 0, "stay"])
        self.assertEqual(told["sum", 0], ([8], [3]))
        self.assertEqual(told["model", 0, "shares"], (["ann", "bob"], []))
        self.assertNotIn(("copy", 0, "most"), told)
        # The answer went out with the row itself, so nothing else fits it; the sum alone would let 0 stand for None.
        self.assertEqual(fits, [(("s", 0), "day", [1]), (("s", 0), "cost", [5])])

    def test_what_fits(self):
        def fits(*asks):
            house = House(TABLES, PLAN)
            house.tell(at(0, "visit", ("ann", 1), 0))
            house.tell(at(1, "visit", ("bob", 2, 3), 0))
            for deed, *told in asks:
                do(house, deed, (*told, 1))
            return [cells for _, _, cells in house.forget("ann")[3]]

        everything = [None, *range(10)]
        self.assertEqual(fits(), [everything, everything])
        self.assertEqual(fits(("copy",)), [everything, everything])
        self.assertEqual(fits(("serve", "eve", "care", "visit")), [everything, everything])
        self.assertEqual(fits(("export", "visit")), [[1], [None]])
        # Nought adds nothing, as None does; a cost of three or more would be kept.
        self.assertEqual(fits(("publish", "visit", "cost")), [everything, [None, 0]])
        self.assertEqual(fits(("export", "dear")), [everything, [None, 0, 1, 2]])
        self.assertEqual(fits(("publish", "dear", "cost")), [everything, [None, 0, 1, 2]])
        self.assertEqual(fits(("publish", "dear", "cost"), ("publish", "visit", "cost")), [everything, [None, 0]])
        self.assertEqual(fits(("publish", "less", "rest")), [everything, [None, 1]])
        self.assertEqual(fits(("publish", "visit", "day"), ("export", "mark")), [[1], everything])

    def test_of_entries_that_go_and_have_a_row(self):
        house = House(TABLES, PLAN)
        house.tell(at(0, "stay", ("ann",), 0))
        house.tell(at(1, "mark", (2,), 0, cause=0))
        house.tell(at(2, "mark", None, 0, rights=1))
        gone, lacking, remade, fits = house.forget("ann")
        self.assertEqual((gone, lacking, remade), ([("s", 0), ("s", 1), ("s", 2)], [], []))
        self.assertEqual([told[:2] for told in fits], [(("s", 0), "night"), (("s", 1), "grade")])

    def test_fits_are_those_with_which_all_was_as_it_went_out(self):
        partly = 0
        for seed in range(60):
            house, done, drawing = drawn(seed, 14)
            person = drawing.chance.choice(("ann", "bob"))
            before, history = all_borne(house, done), house.history()
            gone, _, _, fits = house.forget(person)
            wanted = []
            for key in gone:
                entry = history.entry(key)
                for place, column in enumerate(self.table(entry)[1]):
                    if column[1] == "number" and entry[2] is not None:
                        cells = [cell for cell in [None, *range(10)] if self.is_same(done, before, entry, place, cell)]
                        wanted.append((key, column[0], cells))
                        partly += 1 < len(cells) < 11
            self.assertEqual(fits, wanted)
        self.assertGreater(partly, 2)

    def table(self, entry):
        """The table of the entry."""
        return next(table for table in TABLES if table[0] == entry[1])

    def is_same(self, done, before, entry, place, cell):
        """Whether all but the copies would bear the same, had the entry had the cell there."""
        row = read_row(self.table(entry), entry[2])
        other = (*entry[:2], (*row[:place], cell, *row[place + 1:]), *entry[3:])
        deeds = [(deed, (other,)) if deed == "tell" and told[0] == entry else (deed, told) for deed, told in done]
        found = all_borne(house_of(deeds), deeds)
        return all(found[asked] == before[asked] for asked in before if asked[0] != "copy")

    def test_remade_is_just_what_turns(self):
        remade = {}
        for seed in range(60):
            house, done, drawing = drawn(seed, 20)
            before = all_borne(house, done)
            gone, lacking, told, _ = house.forget("ann")
            after, wanted = all_borne(house, done), []
            for (sort, number), one in before.items():
                other = after[sort, number]
                if sort == "copy":
                    for name in one[0]:
                        wanted.extend(self.turned(("copy", number, name), one[0][name], other[0][name]))
                    for name, (_, model) in MODELS.items():
                        ways = turns(model, one[1][name], other[1][name])
                        wanted.extend([(("model", number, name), ways, [])] if ways else [])
                elif sort == "answer":
                    wanted.extend(self.turned((sort, number), one, other))
                elif sort == "sum":
                    wanted.extend([((sort, number), [one], [other])] if one != other else [])
                elif one != other:
                    wanted.append((sort, number))
            self.assertEqual([turned for turned in told if turned[0][0] != "export"],
                             sorted([turned for turned in wanted if turned[0] != "export"], key=lambda one: one[0]))
            self.assertEqual([turned[0] for turned in told], sorted(turned[0] for turned in told))
            self.assertEqual([place for place, _, _ in told if place[0] == "export"],
                             [place for place in wanted if place[0] == "export"])
            for (sort, *_), _, _ in told:
                remade[sort] = remade.get(sort, 0) + 1
        self.assertGreater(min(remade.values()), 5, remade)
        self.assertEqual(set(remade), {"answer", "copy", "export", "model", "sum"})

    def turned(self, place, one, other):
        """What turned of a list."""
        goes = [pair for pair in one if pair not in other]
        comes = [pair for pair in other if pair not in one]
        return [(place, goes, comes)] if goes or comes else []

    def test_an_export_tells_the_rows(self):
        house = House(TABLES, PLAN)
        house.tell(at(0, "visit", ("ann", 1, 5), 0))
        house.tell(at(1, "visit", ("ann", 2, 3), 0))
        house.export("sums", 0)
        house.tell(at(2, "visit", ("bob", 2, 3), 1, rights=1))
        thread = ("sums", (("dear", (v(0),)), ("dear", (v(1),))))
        self.assertEqual(house.forget("bob")[2], [])
        self.assertEqual(house.forget("ann")[2], [(("export", 0), [(thread, ("ann", 8))], [])])

    def test_a_row_that_lacks_one_may_be_allowed_then(self):
        house = House(TABLES, PLAN)
        house.tell(at(0, "stay", ("ann", "bob", 3), 0))
        house.allow(("bob", "care", "allow", 0, None, 0))
        house.serve("eve", "care", "stay", 0)
        thread = ("stay", ("s", 0))
        self.assertEqual(house.forget("ann")[2], [(("answer", 0), [], [(thread, (None, "bob", 3))])])
        # It leans now on bob's row.
        self.assertEqual(house.leaning("bob", "care"), [0])
        self.assertEqual(house.leaning("ann", "care"), [])

    def test_a_permission_goes_too(self):
        house = three()
        house.forget("bob")
        self.assertEqual(house.book().permits(), [("ann", "care", "allow", 0, None, 0)])
        self.assertEqual(house.history().entry(("s", 2))[2], ("ann", None, 3))

    def test_who_was_told_nowhere_and_who_was_forgotten_already(self):
        house = three()
        kept, paper = house.twin(), house.paper()
        self.assertEqual(house.forget("eve"), ([], [], [], []))
        self.assertEqual((house, house.paper(), house.otherwise()), (kept, paper, []))
        house.forget("ann")
        paper, otherwise = house.paper(), house.otherwise()
        self.assertEqual(house.forget("ann"), ([], [], [], []))
        self.assertEqual((house.paper(), house.otherwise()), (paper, otherwise))

    def test_an_askers_name_stays(self):
        house = three()
        house.forget("ann")
        self.assertEqual(house.answer(0), ("ann", "care", "visit", 1, [(v(1), ("bob", 2, 3))]))

    def test_otherwise_is_told_for_answers_and_sums(self):
        house = three()
        house.serve("eve", "care", "mark", 1)
        self.assertEqual(house.otherwise(), [])
        house.forget("ann")
        self.assertEqual(house.otherwise(), [("answer", 0), ("sum", 0)])
        house.serve("eve", "care", "visit", 1)
        self.assertEqual(house.otherwise(), [("answer", 0), ("sum", 0)])
        house.forget("bob")
        self.assertEqual(house.otherwise(), [("answer", 0), ("answer", 2), ("sum", 0)])

    def test_without_a_plan_without_models_and_without_any_ask(self):
        for fewest in (1, 4):
            house = House(TABLES, (), fewest=fewest)
            self.assertEqual(house.forget("ann"), ([], [], [], []))
            house.tell(at(0, "visit", ("ann", 1, 5), 0))
            house.tell(at(1, "stay", ("ann", "bob"), 0))
            self.assertEqual(house.begin("ann"), [])
            everything = [None, *range(10)]
            self.assertEqual(house.go_on(), ([("s", 0)], [("s", 1)], [],
                                             [(("s", 0), "day", everything), (("s", 0), "cost", everything)]))
            self.assertEqual(house.paper(), [(("entries",), [at(1, "stay", (None, "bob"), 0)]), (("permits",), [])])
            self.assertEqual((house.otherwise(), house.made(), house.clock()), ([], [], 0))

    def test_asks_of_the_same_moment(self):
        house = House(TABLES, PLAN)
        house.tell(at(0, "visit", ("ann", 1, 5), 0))
        for _ in range(2):
            for deed, told in (("copy", (3,)), ("export", ("visit", 3)), ("publish", ("visit", "cost", 3))):
                do(house, deed, told)
        row = (v(0), ("ann", 1, 5))
        remade = house.forget("ann")[2]
        for number in (0, 1):
            for place in (("copy", number, "visit"), ("export", number)):
                self.assertIn((place, [row], []), remade)
            self.assertIn((("sum", number), [5], [0]), remade)

    def test_no_person(self):
        house = three()
        kept = house.twin()
        for ask in (house.forget, house.begin):
            for thing in of_any_kind() + ["Ann", ["ann"], ("ann",), 0, "abcdefghi"]:
                if not (isinstance(thing, str) and thing == "ann"):
                    with self.assertRaises(NoPerson) as caught:
                        ask(thing)
                    self.assertIs(caught.exception.thing, thing)
        self.assertEqual((house, house.is_amid(), house.paper()), (kept, False, kept.paper()))

    def test_the_clock_may_go_back_and_keys_are_free_again(self):
        house = House(TABLES, PLAN)
        house.tell(at(0, "mark", (1,), 2))
        house.tell(at(1, "visit", ("ann",), 7))
        house.allow(("ann", "care", "allow", 0, None, 9))
        self.assertEqual(house.clock(), 9)
        house.forget("ann")
        self.assertEqual(house.clock(), 2)
        house.tell(at(1, "mark", (3,), 2))
        house.copy(3)
        house.tell(at(2, "visit", ("ann", 1, 5), 4))
        house.forget("ann")
        self.assertEqual((house.clock(), len(house)), (3, 2))


class NeverTold(unittest.TestCase):
    def same(self, house, done):
        """The house keeps what another one keeps that was told just this."""
        other = house_of(done)
        self.assertEqual(house, other)
        self.assertEqual(house.paper(), other.paper())
        self.assertEqual((house.clock(), len(house)), (other.clock(), len(other)))
        self.assertEqual(all_borne(house, done), all_borne(other, done))
        self.assertEqual((house.history(), house.book(), house.sums()), (other.history(), other.book(), other.sums()))
        for so, known in ((0, None), (4, 3), (9, 6)):
            self.assertEqual(house.derived(so, known=known), other.derived(so, known=known))
            for name in MODELS:
                self.assertEqual(house.model(name, so, known=known), other.model(name, so, known=known))
            self.assertEqual(house.found("visit", "who", so, known=known), other.found("visit", "who", so, known=known))
        for person in ("ann", "bob", "cid"):
            self.assertEqual(house.shown(person, 5), other.shown(person, 5))
            self.assertEqual(house.leaning(person, "care"), other.leaning(person, "care"))

    def test_one_is_forgotten(self):
        for seed in range(60):
            house, done, drawing = drawn(seed, 20, fewest=drawing_fewest(seed))
            person = drawing.chance.choice(("ann", "bob", "cid", "eve"))
            house.forget(person)
            self.same(house, never_told(done, person))
            self.assertIsNone(trace(house.paper(), [person]))
            self.assertIsNone(amiss(TABLES, PLAN, MODELS, house.paper()))

    def test_several_amid_whatever_is_told_between(self):
        for seed in range(40):
            house, done, drawing = drawn(seed, 10, fewest=drawing_fewest(seed))
            for _ in range(4):
                person = drawing.chance.choice(("ann", "bob", "cid"))
                house.forget(person)
                if drawing.chance.random() < 0.3:
                    house.fall()
                done = never_told(done, person)
                self.same(house, done)
                done.extend(more(house, drawing, 5))
                self.same(house, done)

    def test_in_any_order_and_twice(self):
        for seed in range(15):
            house, done, _ = drawn(seed, 20)
            papers, elder = [], house.twin()
            for order in itertools.permutations(("ann", "bob", "cid")):
                house, left = elder.twin(), done
                for person in order + order[:1]:
                    house.forget(person)
                    left = never_told(left, person)
                papers.append(house.paper())
                self.same(house, left)
            self.assertEqual(papers, papers[:1] * 6)
            history = elder.history().without(["ann", "bob", "cid"])
            self.assertEqual(house.history(), history)

    def test_the_forgotten_one_is_nowhere(self):
        for seed in range(30):
            house, _, _ = drawn(seed, 24)
            house.forget("ann")
            house.copy(house.clock())
            asked = [told for told in house.paper() if told[0][0] in ("answer",)]
            text = repr([(place, thing) for place, thing in house.paper() if place[0] != "answer"])
            text += repr([thing[1:] for _, thing in asked])
            self.assertNotIn("ann", text)


def drawing_fewest(seed):
    """One, or more."""
    return 1 + seed % 3


class StepByStep(unittest.TestCase):
    PLACES = [("answer", 0), ("copy", 0, "beside"), ("copy", 0, "dear"), ("copy", 0, "firsts"), ("copy", 0, "less"),
              ("copy", 0, "runs"), ("copy", 0, "stay"), ("copy", 0, "sums"), ("copy", 0, "twice"), ("copy", 0, "visit"),
              ("export", 0), ("model", 0, "lots"), ("model", 0, "pairs"), ("model", 0, "shares"), ("model", 0, "tree"),
              ("sum", 0)]

    def test_place_by_place(self):
        house, at_once = three(), three()
        report = at_once.forget("ann")
        self.assertIs(house.is_amid(), False)
        self.assertEqual(house.begin("ann"), self.PLACES)
        for place in self.PLACES:
            self.assertIs(house.is_amid(), True)
            self.assertEqual(house.go_on(), place)
        self.assertIs(house.is_amid(), True)
        self.assertEqual(house.go_on(), report)
        self.assertIs(house.is_amid(), False)
        self.assertEqual([place for place, _, _ in report[2]], self.PLACES)
        self.assertEqual((house, house.paper(), house.otherwise()), (at_once, at_once.paper(), at_once.otherwise()))

    def test_bare(self):
        house = three()
        self.assertRaises(Bare, house.go_on)
        self.assertEqual(house.begin("eve"), [])
        self.assertIs(house.is_amid(), True)
        self.assertEqual(house.go_on(), ([], [], [], []))
        self.assertRaises(Bare, house.go_on)
        house.forget("ann")
        self.assertRaises(Bare, house.go_on)

    def test_what_waits_all_the_while(self):
        house = three()
        house.begin("ann")
        kept, bad = house.twin(), object()
        asks = (house.paper, lambda: house.serve(bad, bad, bad, bad), lambda: house.copy(bad),
                lambda: house.export(bad, bad), lambda: house.publish(bad, bad, bad), lambda: house.forget(bad),
                lambda: house.begin(bad), lambda: house.tell(bad), lambda: house.allow(bad),
                lambda: house.serve("eve", "care", "visit", 5), lambda: house.copy(5),
                lambda: house.export("visit", 5), lambda: house.publish("visit", "cost", 5),
                lambda: house.forget("bob"), lambda: house.begin("ann"), lambda: house.tell(at(9, "mark", (1,), 5)),
                lambda: house.allow(("bob", "care", "allow", 0, None, 5)))
        while house.is_amid():
            for ask in asks:
                self.assertRaises(Amid, ask)
            house.go_on()
        while kept.is_amid():
            kept.go_on()
        self.assertEqual((house, house.paper(), house.made()), (kept, kept.paper(), kept.made()))
        self.assertEqual(house.copy(5), 1)

    def test_what_waits_for_its_place(self):
        house = three()
        house.serve("eve", "care", "mark", 1)
        house.export("mark", 1)
        house.begin("ann")
        left = list(self.PLACES)
        while house.is_amid():
            sorts = [place[0] for place in left]
            for waits, ask in (("answer" in sorts, lambda: house.answer(0)),
                               ("copy" in sorts or "model" in sorts, lambda: house.copied(0)),
                               ("export" in sorts, lambda: house.exported(0)), ("sum" in sorts, house.sums),
                               ("answer" in sorts, lambda: house.leaning("bob", "care"))):
                if waits:
                    self.assertRaises(Amid, ask)
                else:
                    ask()
            self.assertRaises(Amid if "answer" in sorts else NoPerson, house.leaning, None, None)
            # These are not remade at all.
            self.assertEqual((house.answer(1)[4], house.exported(1)), ([], ("mark", 1, "")))
            if left:
                self.assertEqual(house.go_on(), left.pop(0))
            else:
                house.go_on()
        self.assertEqual(house.leaning("bob", "care"), [0])

    def test_refusals_that_do_not_wait(self):
        house = three()
        house.begin("ann")
        for ask, name in ((lambda: house.answer(5), "NoNumber"), (lambda: house.copied(True), "NoNumber"),
                          (lambda: house.exported(None), "NoNumber"), (lambda: house.table("none", 1), "NoTable"),
                          (lambda: house.derived(None), "NoMoment"), (lambda: house.shown(None, None), "NoPerson")):
            with self.assertRaises(Exception) as caught:
                ask()
            self.assertEqual(type(caught.exception).__name__, name)

    def test_meanwhile_all_is_without_the_person(self):
        for seed in range(20):
            house, _, _ = drawn(seed, 20)
            other = house.twin()
            other.forget("ann")
            house.begin("ann")
            while house.is_amid():
                self.assertEqual((house, house.history(), house.book()), (other, other.history(), other.book()))
                self.assertEqual((house.clock(), len(house)), (other.clock(), len(other)))
                self.assertEqual(house.derived(5, known=4), other.derived(5, known=4))
                self.assertEqual(house.table("beside", 5), other.table("beside", 5))
                self.assertEqual(house.model("tree", 5), other.model("tree", 5))
                self.assertEqual(house.found("visit", "who", 5), other.found("visit", "who", 5))
                self.assertEqual((house.shown("bob", 5), house.shown("ann", 5)), (other.shown("bob", 5), []))
                house.go_on()

    def test_otherwise_from_the_step_on_that_tells_the_place(self):
        house, told = three(), []
        house.begin("ann")
        while house.is_amid():
            self.assertEqual(house.otherwise(), told)
            place = house.go_on()
            if place[0] in ("answer", "sum"):
                told.append(place)
        self.assertEqual((house.otherwise(), told), ([("answer", 0), ("sum", 0)],) * 2)

    def test_drawn_with_falls_at_each_step(self):
        steps = 0
        for seed in range(30):
            chance = random.Random(seed)
            elder, done, _ = drawn(seed, 20)
            at_once = elder.twin()
            report = at_once.forget("ann")
            for way in ("never", "always", "drawn"):
                house, told = elder.twin(), []
                places = house.begin("ann")
                self.assertEqual(places, [place for place, _, _ in report[2]])
                while house.is_amid():
                    if way == "always" or way == "drawn" and chance.random() < 0.5:
                        house.fall()
                        self.assertEqual(house.made(), [])
                    self.same_where_remade(house, at_once, done, places[len(told):])
                    told.append(house.go_on())
                self.assertEqual(told, places + [report])
                self.assertEqual((house, house.paper(), house.otherwise()), (at_once, at_once.paper(), at_once.otherwise()))
                self.assertEqual(all_borne(house, done), all_borne(at_once, done))
                steps += len(told)
        self.assertGreater(steps, 500)

    def same_where_remade(self, house, at_once, done, left):
        """What is asked bears what it will, or waits where its place is left."""
        for sort, deed in (("answer", "serve"), ("copy", "copy"), ("export", "export"), ("sum", "publish")):
            for number in range(count(done, deed)):
                waits = any(place[0] == sort and place[1] == number for place in left)
                waits |= sort == "copy" and any(place[0] == "model" and place[1] == number for place in left)
                waits |= sort == "sum" and any(place[0] == "sum" for place in left)
                self.assertEqual(bears(house, sort, number), Amid if waits else bears(at_once, sort, number))

    def test_told_is_new(self):
        house, other = three(), three()
        report = other.forget("ann")
        house.begin("ann").clear()
        twin = house.twin()
        for one in (house, twin):
            told = None
            while one.is_amid():
                told = one.go_on()
            self.assertEqual(told, report)
            for part in told:
                part.clear()
        twin = three()
        twin.begin("ann")
        later = twin.twin()
        for one in (twin, later):
            while one.is_amid():
                told = one.go_on()
            self.assertEqual(told, report)
            for _, goes, comes in told[2]:
                goes.clear()
                comes.clear()
            for _, _, cells in told[3]:
                cells.clear()


class Falls(unittest.TestCase):
    def test_which_copies_are_made(self):
        house = three()
        self.assertEqual((house.made(), house.copy(1), house.copy(2), house.made()), ([0], 1, 2, [0, 1, 2]))
        self.assertIsNone(house.fall())
        self.assertEqual(house.made(), [])
        house.paper()
        self.assertEqual(house.made(), [])
        house.copied(2)
        self.assertEqual(house.made(), [2])
        house.copied(0)
        self.assertEqual((house.made(), house.copy(2), house.made()), ([0, 2], 3, [0, 2, 3]))
        self.assertEqual(house.twin().made(), [0, 2, 3])
        self.assertEqual(House(TABLES, PLAN).made(), [])

    def test_a_forgetting_makes_none(self):
        house = three()
        house.fall()
        house.begin("ann")
        self.assertEqual(house.made(), [])
        self.assertRaises(Amid, house.copied, 0)
        self.assertEqual(house.made(), [])
        while house.is_amid():
            house.go_on()
        self.assertEqual(house.made(), [])
        house.copied(0)
        house.forget("bob")
        self.assertEqual(house.made(), [0])

    def test_a_fall_changes_nothing_else(self):
        for seed in range(20):
            house, done, _ = drawn(seed, 20)
            house.forget("ann")
            kept, paper, borne, otherwise = house.twin(), house.paper(), all_borne(house, done), house.otherwise()
            house.fall()
            self.assertEqual((house, house.paper(), house.otherwise()), (kept, paper, otherwise))
            self.assertEqual(all_borne(house, done), borne)


class Twins(unittest.TestCase):
    def test_amid(self):
        for seed in range(15):
            elder, done, _ = drawn(seed, 18)
            elder.forget("bob")
            whole = elder.twin()
            report = whole.forget("ann")
            places = elder.begin("ann")
            for at_step in range(len(places) + 1):
                twin = elder.twin()
                self.assertEqual((twin, twin.is_amid(), twin.made(), twin.otherwise()),
                                 (elder, True, elder.made(), elder.otherwise()))
                self.assertRaises(Amid, twin.paper)
                told = []
                while twin.is_amid():
                    told.append(twin.go_on())
                self.assertEqual(told, places[at_step:] + [report])
                self.assertEqual((twin.paper(), twin.otherwise()), (whole.paper(), whole.otherwise()))
                # The elder one stands where it stood.
                self.assertIs(elder.is_amid(), True)
                elder.go_on()
            self.assertEqual(elder.paper(), whole.paper())

    def test_each_forgets_by_itself(self):
        house = three()
        twin = house.twin()
        twin.forget("ann")
        self.assertEqual((house, house.otherwise(), house.answer(0)[4][0][1]), (three(), [], ("ann", 1, 5)))
        self.assertEqual(house.history().without(["ann"]), twin.history())
        self.assertEqual(type(twin.history()), History)


if __name__ == "__main__":
    unittest.main()
