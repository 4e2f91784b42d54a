import random
import unittest

from asnevertold.combining import combination, lets_combination
from asnevertold.errors import NoColumn, NoMoment, NoSum, NoTable, Refused
from asnevertold.house import House
from asnevertold.tables import persons_of
from asnevertold.weights import weights
from drawn import MODELS, NAMES, PLAN, STRAIGHT, TABLES, Drawing, drawn
from things import of_any_kind


def at(number, name, row, known, rights=None):
    """An entry."""
    return ("s", number), name, row, 0, None, known, None if rights is None else ("s", rights), None


def house_of(*rows, fewest=2):
    """A house with these visits, or stays of several persons."""
    house = House(TABLES, PLAN, fewest=fewest)
    for number, row in enumerate(rows):
        house.tell(at(number, "visit" if isinstance(row[1], int) else "stay", row, 0))
    return house


THREE = (("ann", 1, 5), ("bob", 2, 3), ("cid", 4, 1))


class Sums(unittest.TestCase):
    def test_totals(self):
        house = house_of(*THREE)
        self.assertEqual(house.publish("visit", "cost", 0), 9)
        self.assertEqual(house.publish("visit", "cost", 0), 9)
        self.assertEqual(house.publish("visit", "day", 3), 7)
        self.assertEqual(house.publish("less", "rest", 3), 2)
        self.assertEqual(house.sums(), [("visit", "cost", 0, 9), ("visit", "cost", 0, 9), ("visit", "day", 3, 7),
                                        ("less", "rest", 3, 2)])

    def test_none_is_left_out_and_of_no_rows_nought(self):
        house = house_of(("ann", 0, None), ("bob", 0, 3), (None, 0, 6), fewest=1)
        self.assertEqual([house.publish("visit", "cost", 0), house.publish("less", "rest", 0),
                          house.publish("mark", "grade", 0)], [9, 9, 0])

    def test_as_added_up(self):
        for seed in range(40):
            house, done, _ = drawn(seed, 20)
            for name, column, moment, total in house.sums():
                rows = house.table(name, moment, known=moment)
                place = {"sum": 1, "cost": 2, "day": 1, "night": 4, "rest": 3, "window": 4}[column]
                place = 2 if name == "stay" else place
                self.assertEqual(total, sum(row[place] or 0 for _, row in rows))
            asked = [told for deed, told in done if deed == "publish"]
            self.assertEqual([one[:3] for one in house.sums()], asked)

    def test_refusals_from_left_to_right(self):
        house = house_of(*THREE)
        kept = house.twin()
        for thing in of_any_kind() + ["none", 0, ["visit"]]:
            with self.assertRaises(NoTable) as caught:
                house.publish(thing, None, None)
            self.assertIs(caught.exception.name, thing)
        for thing in of_any_kind() + ["none", "night", ["cost"]]:
            with self.assertRaises(NoColumn) as caught:
                house.publish("visit", thing, None)
            self.assertIs(caught.exception.name, thing)
        for name, column in (("visit", "who"), ("most", "most"), ("sums", "who"), ("beside", "host")):
            self.assertRaises(NoSum, house.publish, name, column, None)
        for thing in of_any_kind() + [-1, 1000, True, 0.0]:
            with self.assertRaises(NoMoment) as caught:
                house.publish("visit", "cost", thing)
            self.assertIs(caught.exception.thing, thing)
        # Whatever is amiss goes ahead of what tells of too few.
        alone = house_of(THREE[0])
        self.assertRaises(NoMoment, alone.publish, "visit", "cost", None)
        self.assertRaises(Refused, alone.publish, "visit", "cost", 0)
        self.assertEqual(house, kept)


class Refusals(unittest.TestCase):
    def refused(self, house, name, column, moment, *wanted):
        kept, clock = house.twin(), house.clock()
        with self.assertRaises(Refused) as caught:
            house.publish(name, column, moment)
        self.assertEqual((house, house.sums(), house.clock()), (kept, kept.sums(), clock))
        if wanted:
            self.assertEqual([(one[0] * wanted[-1], one[1]) for one in caught.exception.combination],
                             [(share, 1) for share in wanted])
        return caught.exception.combination

    def test_of_one_person(self):
        house = house_of(THREE[0])
        self.refused(house, "visit", "cost", 0, 1)
        house.tell(at(1, "visit", THREE[1], 0))
        self.assertEqual(house.publish("visit", "cost", 0), 8)

    def test_fewest(self):
        for many in (1, 2, 3):
            for fewest in (1, 2, 3, 4):
                house = house_of(*THREE[:many], fewest=fewest)
                if many < fewest:
                    self.refused(house, "visit", "cost", 0, 1)
                else:
                    house.publish("visit", "cost", 0)

    def test_what_tells_of_one_with_an_elder_one(self):
        house = house_of(*THREE)
        house.publish("visit", "cost", 0)
        # All costs but cid's, which is less than three.
        self.refused(house, "dear", "cost", 0, -1, 1)
        house.publish("visit", "day", 0)
        house.publish("less", "rest", 0)
        self.refused(house, "sums", "sum", 0, -1, 0, 0, 1)

    def test_a_refused_sum_changes_nothing(self):
        house = house_of(THREE[0])
        for _ in range(2):
            self.refused(house, "visit", "cost", 5)
        # No ask was let in, so entries of that moment, and earlier ones, may still come.
        house.tell(at(1, "visit", THREE[1], 3))
        house.tell(at(2, "visit", THREE[2], 5))
        self.assertEqual(house.publish("visit", "cost", 5), 9)
        self.assertEqual(house.sums(), [("visit", "cost", 5, 9)])
        self.assertEqual(house.exported(house.export("visit", 5))[2].count("\n"), 2)

    def test_what_weighs_nothing_goes_out(self):
        for fewest in (1, 2, 3, 4):
            house = house_of((None, 1, 5), fewest=fewest)
            self.assertEqual(house.publish("visit", "cost", 0), 5)
            self.assertEqual(house.publish("stay", "night", 0), 0)
            house.tell(at(7, "visit", ("ann", 2, None), 1))
            self.assertEqual(house.publish("visit", "cost", 1), 5)
            # What went out without weights has its share, too.
            if fewest > 1:
                self.refused(house, "visit", "day", 1, 0, 0, 0, 1)

    def test_a_row_of_several_persons(self):
        house = house_of(("ann", "bob", 3))
        self.assertEqual(house.publish("stay", "night", 0), 3)
        self.refused(house_of(("ann", "bob", 3), fewest=3), "stay", "night", 0, 1)
        self.refused(house_of(("ann", "ann", 3)), "stay", "night", 0, 1)

    def test_a_forgotten_person_counts_as_one_that_is_told_nowhere(self):
        house = house_of(*THREE)
        house.publish("visit", "cost", 0)
        house.forget("ann")
        self.assertEqual(house.sums(), [("visit", "cost", 0, 4)])
        # With the elder one, as it went out, it would tell what ann's cell was.
        self.refused(house, "visit", "cost", 0, -1, 1)
        self.assertEqual(house.publish("twice", "cost", 0), 7)

    def test_told_anew_a_row_is_another_one(self):
        house = house_of(*THREE)
        house.publish("visit", "cost", 0)
        house.forget("ann")
        house.tell(at(0, "visit", ("ann", 1, 5), 1))
        # Less the elder one it is of ann's new cell and the old one: two persons.
        self.assertEqual(house.publish("visit", "cost", 1), 9)
        house = house_of(*THREE, fewest=3)
        house.publish("visit", "cost", 0)
        house.forget("ann")
        house.tell(at(0, "visit", ("ann", 1, 5), 1))
        self.refused(house, "visit", "cost", 1, -1, 1)

    def test_all_of_one_forgetting_is_one_person_and_each_forgetting_another(self):
        rows = (("ann", 1, 5), ("ann", 2, 6), ("bob", 3, 7), ("cid", 4, 8))
        house = house_of(*rows)
        house.publish("visit", "cost", 0)
        house.forget("ann")
        self.refused(house, "visit", "cost", 0, -1, 1)
        house = house_of(*rows)
        house.publish("visit", "cost", 0)
        house.forget("ann")
        house.forget("bob")
        house.tell(at(7, "visit", ("dan", 1, 1), 1))
        # Of dan and cid, and less the elder one of dan and both who are forgotten.
        self.assertEqual(house.publish("visit", "cost", 1), 9)

    def test_a_row_that_lacks_one_is_of_those_still_in_it(self):
        house = house_of(("ann", "bob", 3), ("cid", "dan", 2))
        house.publish("stay", "night", 0)
        house.forget("ann")
        house.tell(at(2, "stay", ("eve", "ida", 2), 1))
        house.tell(at(3, "stay", (None, "bob", 0), 1, 1))
        # All but the row of bob alone, and eve's: less the elder one it is of bob, cid, dan, eve and ida.
        self.assertEqual(house.publish("stay", "night", 1), 5)
        house.forget("cid")
        house.forget("dan")
        self.assertEqual(house.sums()[0][3], 3)

    def test_others_in_elder_cells_stay_till_they_are_forgotten(self):
        tables = (("pair", (("one", "person", None), ("other", "person", None), ("n", "number", None)), "row"),)

        def told(*forgotten):
            house = House(tables, (), fewest=3)
            rows = (("ann", "bob", 1), ("cid", "dan", 2), ("dan", "eve", 3))
            for number, row in enumerate(rows):
                house.tell(at(number, "pair", row, 0))
            house.publish("pair", "n", 0)
            for person in forgotten:
                house.forget(person)
            return house

        # Less the elder sum it is of ann and bob alone: two.
        self.refused(told("ann"), "pair", "n", 0, -1, 1)
        self.refused(told("ann", "bob"), "pair", "n", 0, -1, 1)
        # Of four, as cid's row has gone, too.
        house = told("ann", "cid")
        house.tell(at(9, "pair", ("fay", "gus", 2), 1))
        self.assertEqual(house.publish("pair", "n", 1), 5)


class Drawn(unittest.TestCase):
    def test_refused_just_where_there_is_a_combination(self):
        out, refused = 0, 0
        for seed in range(120):
            told = self.one(seed)
            out, refused = out + told[0], refused + told[1]
        self.assertGreater(out, 300)
        self.assertGreater(refused, 60)

    def one(self, seed):
        """A drawn house, of whose sums the test keeps the weights by itself: how many went out, were refused."""
        chance = random.Random(seed)
        fewest = chance.choice((2, 2, 3, 4))
        drawing, house = Drawing(seed), House(TABLES, PLAN, models=MODELS, fewest=fewest)
        told, own, out, refused = [], {}, 0, 0
        for step in range(chance.randint(6, 24)):
            kind = chance.random()
            if kind < 0.12:
                told, own = self.forgotten(house, chance.choice(("ann", "bob", "cid", "dan")), f"!{step}", told, own)
            elif kind < 0.6:
                house.tell(drawing.entry(house.history().entries()))
            else:
                drawing.go_on()
                drawing.asked = True
                name, column = chance.choice(STRAIGHT)
                there = weights(TABLES, PLAN, house.derived(drawing.moment, known=drawing.moment), name, column)
                persons = {entry[0]: persons_of(entry[2] or ()) for entry in house.history().entries()}
                found = combination(told + [there], {**persons, **own}, fewest) if there else None
                try:
                    house.publish(name, column, drawing.moment)
                    self.assertIsNone(found)
                    told, out = told + [there], out + 1
                except Refused as e:
                    self.assertIsNotNone(found)
                    self.assertTrue(lets_combination(told + [there], {**persons, **own}, fewest, e.combination))
                    refused += 1
                self.assertEqual(len(house.sums()), len(told))
        return out, refused

    def forgotten(self, house, person, nobody, told, own):
        """The weights and the persons of own cells behind a forgetting."""
        history = house.history()
        gone = house.forget(person)[0]
        keys = {key: (nobody, number) for number, key in enumerate(gone)}
        own = {**own, **{keys[key]: persons_of(history.entry(key)[2] or ()) for key in gone}}
        own = {key: tuple(nobody if one == person else one for one in theirs) for key, theirs in own.items()}
        told = [{(keys.get(key, key), column): many for (key, column), many in there.items()} for there in told]
        return told, own

    def test_a_twin_refuses_the_same(self):
        for seed in range(30):
            house, _, _ = drawn(seed, 20, fewest=3)
            house.forget("ann")
            twin = house.twin()
            for name, column in STRAIGHT:
                found = []
                for one in (house, twin):
                    try:
                        found.append(one.publish(name, column, one.clock()))
                    except Refused as e:
                        found.append(e.combination)
                self.assertEqual(*found)
            self.assertEqual(house, twin)

    def test_names_of_the_plan_are_all_told(self):
        self.assertEqual(set(NAMES) - {name for name, _ in STRAIGHT}, {"mark", "most"})


if __name__ == "__main__":
    unittest.main()
