import copy
import random
import unittest

from asnevertold.errors import Amid, NoPerson
from asnevertold.house import House
from asnevertold.paper import amiss, trace
from drawn import MODELS, PLAN, TABLES, do, drawn
from test_threads import put_otherwise
from things import of_any_kind

PLACES = [("answer", 0), ("copy", 0), ("copy", 1), ("entries",), ("export", 0), ("permits",), ("sum", 0), ("sum", 1)]


def at(number, name, row, known):
    """An entry."""
    return ("s", number), name, row, 0, None, known, None, None


def house_of(*asks):
    """A house with some entries, that was asked so."""
    house = House(TABLES, PLAN, models=MODELS)
    house.tell(at(0, "visit", ("ann", 1, 5), 0))
    house.tell(at(1, "visit", ("bob", 2, 3), 1))
    house.tell(at(2, "stay", ("ann", "bob", 3), 1))
    house.allow(("ann", "care", "allow", 0, None, 1))
    for deed, *told in asks:
        do(house, deed, told)
    return house


def whole():
    """A paper of all sorts."""
    return house_of(("serve", "eve", "care", "visit", 1), ("copy", 2), ("copy", 3), ("export", "stay", 3),
                    ("publish", "visit", "cost", 3), ("publish", "less", "rest", 4)).paper()


def look(thing):
    """What is amiss."""
    return amiss(TABLES, PLAN, MODELS, thing)


def put(paper, place, thing):
    """The paper with the thing at the place."""
    return [(there, thing if there == place else told) for there, told in paper]


def of_paper(paper):
    """The house that was told, and asked, what a paper tells; None where it can't be."""
    told = dict(paper)
    deeds = [(entry[5], 0, number, "tell", (entry,)) for number, entry in enumerate(told[("entries",)])]
    deeds += [(permit[5], 0, number, "allow", (permit,)) for number, permit in enumerate(told[("permits",)])]
    for (sort, *number), thing in paper:
        if sort == "answer":
            deeds.append((thing[3], 1, number[0], "serve", thing[:4]))
        if sort == "copy":
            deeds.append((thing[0], 1, number[0], "copy", thing[:1]))
        if sort == "export":
            deeds.append((thing[1], 1, number[0], "export", thing[:2]))
        if sort == "sum":
            deeds.append((thing[2], 1, number[0], "publish", thing[:3]))
    house = House(TABLES, PLAN, models=MODELS)
    for _, _, _, deed, arguments in sorted(deeds, key=lambda one: one[:3]):
        do(house, deed, arguments)
    return house


class Paper(unittest.TestCase):
    def test_of_nothing(self):
        self.assertEqual(House(TABLES, PLAN).paper(), [(("entries",), []), (("permits",), [])])

    def test_by_hand(self):
        house = house_of(("serve", "eve", "care", "visit", 1), ("copy", 2), ("copy", 3), ("export", "stay", 3),
                         ("publish", "visit", "cost", 3), ("publish", "less", "rest", 4))
        told = dict(house.paper())
        self.assertEqual([place for place, _ in house.paper()], PLACES)
        self.assertEqual(told[("entries",)], house.history().entries())
        self.assertEqual(told[("permits",)], [("ann", "care", "allow", 0, None, 1)])
        for number in (0, 1):
            self.assertEqual(told["copy", number], house.copied(number))
            self.assertEqual(told["sum", number], house.sums()[number])
        self.assertEqual(told["export", 0], house.exported(0))
        asked, derived = told["answer", 0][:4], told["answer", 0][4]
        self.assertEqual((*asked, derived["visit"]), house.answer(0))
        # All names' lists by allowed rows, beside that which the answer bears.
        self.assertEqual(derived["stay"], [])
        self.assertEqual(derived["dear"], [(("dear", (("visit", ("s", 0)),)), ("ann", 1, 5))])
        self.assertEqual(set(derived), set(house.derived(1)))

    def test_more_than_ten_of_a_sort_are_sorted_by_number(self):
        house = house_of(*[("copy", 3)] * 12)
        self.assertEqual([place[1] for place, _ in house.paper() if place[0] == "copy"], list(range(12)))
        self.assertIsNone(look(house.paper()))

    def test_amid(self):
        house = house_of(("copy", 3))
        house.begin("ann")
        self.assertRaises(Amid, house.paper)


class Amiss(unittest.TestCase):
    def test_what_a_house_tells_is_let_by(self):
        self.assertIsNone(look(whole()))
        self.assertIsNone(amiss(TABLES, (), None, House(TABLES, ()).paper()))
        self.assertIsNone(amiss(tables=TABLES, plan=PLAN, models={}, thing=House(TABLES, PLAN).paper()))
        for seed in range(40):
            house, _, _ = drawn(seed, 24)
            self.assertIsNone(look(house.paper()))
            house.forget("ann")
            self.assertIsNone(look(house.paper()))

    def test_form_of_anything(self):
        paper = whole()
        bad = of_any_kind() + [tuple(paper), dict(paper), paper[0], 0, paper[::-1], paper + paper[-1:], paper[1:] + paper[:1]]
        bad += [paper[:place] + paper[place + 1:] for place in (1, 3, 5, 6)]
        bad += [paper + [(("sum", 3), paper[7][1])], paper + [(("sum", -1), paper[7][1])], paper + [(("zoo",), [])],
                [(("answer", 1), paper[0][1])] + paper[1:], [(("answer", False), paper[0][1])] + paper[1:],
                [(["answer", 0], paper[0][1])] + paper[1:], [(("answer",), paper[0][1])] + paper[1:],
                [(("answer", 0, 0), paper[0][1])] + paper[1:], [(("answer", 0.0), paper[0][1])] + paper[1:],
                [list(paper[0])] + paper[1:], [paper[0] + (0,)] + paper[1:], [paper[0][:1]] + paper[1:]]
        for thing in bad:
            with self.subTest(thing=repr(thing)[:60]):
                self.assertEqual(look(thing), ("form",))
        for thing in of_any_kind():
            self.assertEqual(look([thing] + paper), ("form",))
            self.assertEqual(look(paper[:3] + [(thing, paper[3][1])] + paper[4:]), ("form",))

    def test_papers_of_fewer_are_papers(self):
        paper = whole()
        for place in (7, 2, 0, 4):
            left = paper[:place] + paper[place + 1:]
            self.assertIsNone(look(left))

    def test_entries_and_permissions_are_let_in_one_by_one(self):
        paper = whole()
        told = dict(paper)
        entries, permits = told[("entries",)], told[("permits",)]
        for thing in of_any_kind() + [tuple(entries), entries[::-1], entries + entries[:1], [entries[0][:-1]],
                                      [list(entries[0])] + entries[1:], [None], entries + [None],
                                      [entries[0][:5] + (True,) + entries[0][6:]] + entries[1:]]:
            if not (isinstance(thing, list) and not thing):
                self.assertEqual(look(put(paper, ("entries",), thing)), ("form",))
        for thing in of_any_kind() + [tuple(permits), permits + [("ann", "care", "allow", 0, None, 0)], [permits[0][:-1]],
                                      [("ann", "care", "deny", 0, None, 1)]]:
            if not (isinstance(thing, list) and not thing):
                self.assertEqual(look(put(paper, ("permits",), thing)), ("form",))
        # Without the entries or the permission the first place that hangs on them is amiss.
        self.assertEqual(look(put(paper, ("entries",), [])), ("answer", 0))
        self.assertEqual(look(put(paper, ("permits",), [])), ("answer", 0))

    def test_moments_of_one_sort_do_not_fall(self):
        house = house_of(*[deed for moment in (2, 4) for deed in (
            ("serve", "eve", "care", "visit", moment), ("copy", moment), ("export", "visit", moment),
            ("publish", "visit", "cost", moment))])
        paper = house.paper()
        self.assertIsNone(look(paper))
        for sort, place in (("answer", 3), ("copy", 0), ("export", 1), ("sum", 2)):
            for number in (0, 1):
                thing = dict(paper)[sort, number]
                for moment in (1, 2, 3, 4, 5):
                    other = put(paper, (sort, number), (*thing[:place], moment, *thing[place + 1:]))
                    falls = moment > 4 if number == 0 else moment < 2
                    if falls:
                        self.assertEqual(look(other), ("form",))
                    else:
                        # At moment 1 the entries stand already, so all is the same then.
                        self.assertIsNone(look(other))
                    # Whatever else is amiss there the moment is looked at.
                    other = put(paper, (sort, number), (*["no"] * place, moment, "more", "more", "more"))
                    self.assertEqual(look(other), ("form",) if falls else (sort, number))
                for moment in (True, None, "4", 1000, -1):
                    other = put(paper, (sort, number), (*thing[:place], moment, *thing[place + 1:]))
                    self.assertEqual(look(other), (sort, number))
                for other in (thing[:place], list(thing), None, (), 0):
                    self.assertEqual(look(put(paper, (sort, number), other)), (sort, number))

    def test_the_first_place_is_told(self):
        paper = whole()
        for one in range(8):
            for other in range(one, 8):
                places = [PLACES[place] for place in (one, other) if len(PLACES[place]) == 2]
                if places:
                    spoilt = [(place, None if place in places else thing) for place, thing in paper]
                    self.assertEqual(look(spoilt), places[0])

    def test_each_thing_put_otherwise_at_one_place(self):
        paper = whole()
        tried = 0
        for place, thing in paper:
            if len(place) == 2:
                for other in otherwise(thing):
                    found = look(put(paper, place, other))
                    if found is None:
                        # It is a paper all the same: that of a house which was asked so.
                        self.assertEqual(of_paper(put(paper, place, other)).paper(), put(paper, place, other))
                    else:
                        self.assertIn(found, (place, ("form",)))
                    tried += 1
        self.assertGreater(tried, 1500)

    def test_whatever_is_let_by_is_that_of_a_house(self):
        let, refused = 0, 0
        for seed in range(150):
            chance = random.Random(seed)
            one, other = drawn(seed, 12)[0].paper(), drawn(seed + 1, 12)[0].paper()
            place, thing = chance.choice(one)
            mixed = put(one, place, dict(other).get(place, thing))
            if chance.random() < 0.5 and len(place) == 2:
                mixed = put(one, place, chance.choice(list(otherwise(thing, 3))))
            found = look(mixed)
            if found is None:
                self.assertEqual(of_paper(mixed).paper(), mixed)
                let += 1
            else:
                refused += 1
        self.assertGreater(min(let, refused), 20)

    def test_kinds_are_looked_at(self):
        paper = whole()
        thing = dict(paper)["sum", 1]
        self.assertEqual(thing, ("less", "rest", 4, 5))
        one = house_of(("publish", "visit", "day", 1)).paper()
        self.assertEqual(dict(one)["sum", 0], ("visit", "day", 1, 3))
        self.assertEqual(look(put(one, ("sum", 0), ("visit", "day", True, 3))), ("sum", 0))
        for other in (("visit", "day", 1, 3.0), ("visit", "day", 1, None), ("visit", "who", 1, 3), ("most", "most", 1, 3),
                      ("none", "day", 1, 3), ("visit", "none", 1, 3), (None, "day", 1, 3), ["visit", "day", 1, 3],
                      ("visit", ["day"], 1, 3), ("visit", "day", 1, 3, None)):
            self.assertEqual(look(put(one, ("sum", 0), other)), ("sum", 0))

    def test_what_is_handed_in_stays(self):
        paper, models = whole(), copy.deepcopy(MODELS)
        amiss(TABLES, PLAN, models, paper)
        trace(paper, ["ann"])
        self.assertEqual((paper, models), (whole(), MODELS))


def otherwise(thing, most=None):
    """Things that are not just this one, dicts put otherwise, too."""
    if isinstance(thing, dict):
        yield {name: told for name, told in list(thing.items())[1:]}
        yield {**thing, "zoo": []}
        yield list(thing.items())
        for name, told in thing.items():
            yield {**thing, name: None}
            yield {("zoo" if one == name else one): there for one, there in thing.items()}
            for other in put_otherwise(told)[:most]:
                yield {**thing, name: other}
        return
    yield from [None, list(thing), thing[:-1], thing + thing[:1]]
    for place, told in enumerate(thing):
        others = otherwise(told, most) if isinstance(told, dict) else put_otherwise(told)[:most]
        for other in others:
            yield (*thing[:place], other, *thing[place + 1:])


class Trace(unittest.TestCase):
    def test_by_hand(self):
        paper = whole()
        self.assertEqual(trace(paper, ["ann"]), ("answer", 0))
        self.assertEqual(trace(paper, ("bob",)), ("copy", 0))
        self.assertIsNone(trace(paper, ["eve"]))
        self.assertIsNone(trace(paper, ["cid", "dan"]))
        self.assertIsNone(trace(paper, []))
        self.assertEqual(trace(paper, ["cid", "bob"]), ("copy", 0))
        for place, first in ((1, ("copy", 0)), (2, ("copy", 1)), (3, ("entries",)), (4, ("export", 0)), (5, ("permits",)),
                             (6, None), (7, None)):
            self.assertEqual(trace(paper[place:], ["ann"]), first)

    def test_names_that_are_no_cells(self):
        # What asks, purposes, tables, columns, sources, words are called is no cell.
        for name in ("eve", "care", "visit", "who", "cost", "s", "stay", "dear", "shares", "leaf", "split", "allow",
                     "cos", "none", "window", "o", "x"):
            self.assertIsNone(trace(whole(), [name]), name)

    def test_in_models_alone(self):
        names = {name: [] for name in ("visit", "stay")}
        for learnt, found in ((("leaf", (("ann", 2),)), True), (("leaf", (("bob", 2), ("ann", 1))), True),
                              (("leaf", ((5, 2),)), False), (("leaf", ()), False), ([("ann", 1, 2)], True),
                              ([("bob", 1, 2)], False), ([("who", "ann", "day", 1, 2)], True),
                              ([("who", "bob", "host", "ann", 2)], True), ([("ann", 1, "ann", 2, 2)], False),
                              (("split", (("bob", 3),), "ann", 4, ("leaf", (("bob", 1),)), ("leaf", (("bob", 2),))), False),
                              (("split", (("bob", 3),), "day", 4, ("leaf", (("bob", 1),)), ("leaf", (("ann", 2),))), True),
                              (("split", (("ann", 3),), "day", 4, ("leaf", ()), ("leaf", ())), True),
                              (("split", (), "day", 4, ("split", (), "day", 3, ("leaf", (("ann", 1),)), ("leaf", ())),
                                ("leaf", ())), True),
                              ([((((1, 1),),), ()), ((((1, 1),),), (3,))], False), ([], False)):
            paper = [(("copy", 0), (3, names, {"shares": [], "ann": learnt}))]
            self.assertEqual(trace(paper, ["ann"]), ("copy", 0) if found else None, learnt)

    def test_in_an_exports_text(self):
        for text, found in (("visit.s.0 ann,1", True), ("visit.s.0 1,ann", True), ("visit.s.0 bob\nvisit.s.1 ann", True),
                            ("ann.ann.0 bob,1", False), ("ann(ann.s.1,ann.s.2) -,1", False), ("", False),
                            ("visit.s.0 anne", False), ("visit.s.0 bob,ann,cid", True)):
            self.assertEqual(trace([(("export", 0), ("ann", 3, text))], ["ann"]), ("export", 0) if found else None, text)

    def test_whether_all_places_stand_there_or_not(self):
        permit = (("permits",), [("bob", "ann", "allow", 0, None, 1), ("ann", "care", "allow", 0, None, 1)])
        self.assertEqual(trace([(("zoo",), "ann"), permit, permit], ["ann"]), ("permits",))
        self.assertEqual(trace([None, "ann", ("ann", "ann"), permit], ["ann"]), ("permits",))
        self.assertIsNone(trace([(permit[0], permit[1][:1])], ["ann"]))
        entry = (("entries",), [(("ann", 0), "ann", None, 0, None, 0, ("ann", 1), None)])
        self.assertIsNone(trace([entry], ["ann"]))
        entry[1].append((("s", 0), "visit", (3, "ann"), 0, None, 0, None, None))
        self.assertEqual(trace([entry], ["ann"]), ("entries",))

    def test_of_anything(self):
        for thing in of_any_kind() + [(), dict(whole()), tuple(whole()), 0, "ann", [["ann"]], [("ann",)]]:
            self.assertIsNone(trace(thing, ["ann"]))
        for sort in ("answer", "copy", "export", "sum"):
            for thing in of_any_kind():
                trace([((sort, 0), thing)], ["ann"])
                for place in range(5):
                    self.assertIsNone(trace([((sort, 0), (*(None,) * place, thing, None))], ["zoe"]))
        for thing in of_any_kind():
            self.assertIsNone(trace([(thing, ["ann"]), thing, (("permits",), thing)], ["zoe"]))

    def test_persons_that_are_none(self):
        for thing in of_any_kind() + ["ann", ["Ann"], ["ann", None], {"ann"}]:
            if not (isinstance(thing, (list, tuple)) and all(one == "ann" for one in thing)):
                with self.assertRaises(NoPerson) as caught:
                    trace([], thing)
                self.assertIs(caught.exception.thing, thing)

    def test_behind_a_forgetting_there_is_none(self):
        before = 0
        for seed in range(40):
            house, _, _ = drawn(seed, 24)
            before += trace(house.paper(), ["ann"]) is not None
            house.forget("ann")
            self.assertIsNone(trace(house.paper(), ["ann"]))
        self.assertGreater(before, 30)


if __name__ == "__main__":
    unittest.main()
