import copy
import random
import unittest

from asnevertold.deriving import derived
from asnevertold.errors import Bare, NoPlan, NoTable, NoTables, NoTurn
from asnevertold.kept import Kept
from asnevertold.threads import turned
from things import MANY_NAMES, of_any_kind, some_stands, standing, visits_and_stays

TABLES = visits_and_stays()
PLAN = (
    ("dear", ("keep", "visit", "cost", "least", 3)),
    ("beside", ("outer", "visit", "stay", "who", "guest")),
    ("least", ("group", "visit", ("who",), "least", "cost")),
    ("firsts", ("first", "visit", ("who",), "day")),
)
VISITS = standing("visit", ("ann", 1, 5), ("bob", 0, 1), ("ann", 2, 3))
STAYS = standing("stay", ("ann", 7))
NONE = {table[0]: [] for table in TABLES}


def v(number):
    """The thread of a visit."""
    return ("visit", ("s", number))


def kept():
    """A Kept with three visits and a stay."""
    made = Kept(TABLES, PLAN)
    made.turn([], VISITS + STAYS)
    return made


class Turns(unittest.TestCase):
    def test_at_first(self):
        made = Kept(TABLES, PLAN)
        self.assertEqual((made.derived(), len(made)), (derived(TABLES, PLAN, NONE), 0))
        self.assertEqual(made.table("beside"), [])

    def test_by_hand(self):
        made = Kept(TABLES, PLAN)
        self.assertEqual(made.turn([], [VISITS[1]]), {
            "visit": ([], [VISITS[1]]),
            "beside": ([], [(("beside", (v(1),)), ("bob", 0, 1, None))]),
            "least": ([], [(("least", (v(1),)), ("bob", 1))]),
            "firsts": ([], [(("firsts", (v(1),)), ("bob", 0, 1))]),
        })
        # An outer row comes in its lacking form, the least is the next one, the first is the next one.
        made = kept()
        stay = STAYS[0][0]
        told = made.turn([v(0), stay], [])
        self.assertEqual(told["beside"], (
            [(("beside", (v(0), stay)), ("ann", 1, 5, 7)), (("beside", (v(2), stay)), ("ann", 2, 3, 7))],
            [(("beside", (v(2),)), ("ann", 2, 3, None))]))
        self.assertEqual(told["firsts"], ([(("firsts", (v(0),)), ("ann", 1, 5))], [(("firsts", (v(2),)), ("ann", 2, 3))]))
        self.assertEqual(made.turn([v(2)], [])["least"], ([(("least", (v(2),)), ("ann", 3))], []))

    def test_a_row_that_goes_and_comes_otherwise(self):
        made = kept()
        self.assertEqual(made.turn([v(1)], [(v(1), ("bob", 0, 2))]), {
            "visit": ([(v(1), ("bob", 0, 1))], [(v(1), ("bob", 0, 2))]),
            "beside": ([(("beside", (v(1),)), ("bob", 0, 1, None))], [(("beside", (v(1),)), ("bob", 0, 2, None))]),
            "least": ([(("least", (v(1),)), ("bob", 1))], [(("least", (v(1),)), ("bob", 2))]),
            "firsts": ([(("firsts", (v(1),)), ("bob", 0, 1))], [(("firsts", (v(1),)), ("bob", 0, 2))]),
        })

    def test_nothing_turns(self):
        made = kept()
        self.assertEqual(made.turn([], []), {})
        self.assertEqual(made.turn([v(2), v(0)], [VISITS[0], VISITS[2]]), {})
        self.assertEqual(len(made), 3)
        self.assertEqual((made.back(), made.back(), len(made)), ({}, {}, 1))

    def test_only_tables_turn(self):
        made = kept()
        mark = (("mark", ("t", 0)), (None,))
        self.assertEqual(made.turn([], [mark]), {"mark": ([], [mark])})

    def test_in_any_order_is_the_same(self):
        one, other = kept(), kept()
        more = standing("stay", (None, 0), ("bob", 1))[1:] + standing("mark", (1,))
        self.assertEqual(one.turn([v(0), v(1)], more), other.turn([v(1), v(0)], more[::-1]))
        self.assertEqual(one.derived(), other.derived())

    def test_is_what_is_derived_anew(self):
        for seed in range(60):
            chance = random.Random(seed)
            made, before = Kept(TABLES, MANY_NAMES), [dict(NONE)]
            for step in range(8):
                stands = before[-1]
                if len(before) > 1 and chance.random() < 0.25:
                    told = made.back()
                    before.pop()
                else:
                    there = [thread for rows in stands.values() for thread, _ in rows]
                    goes = chance.sample(there, chance.randint(0, min(3, len(there))))
                    drawn = some_stands(100 * seed + step)
                    comes = [pair for rows in drawn.values() for pair in rows
                             if pair[0] in goes or pair[0] not in there]
                    chance.shuffle(comes)
                    told = made.turn(goes, comes)
                    before.append({name: sorted([pair for pair in stands[name] if pair[0] not in goes]
                                                + [pair for pair in comes if pair[0][0] == name],
                                                key=lambda pair: pair[0]) for name in stands})
                whole = derived(TABLES, MANY_NAMES, before[-1])
                self.assertEqual(made.derived(), whole)
                self.assertEqual(list(made.derived()), list(whole))
                self.assertEqual(told, turned(derived(TABLES, MANY_NAMES, stands), whole))
                self.assertEqual(len(made), len(before) - 1)
                for name in whole:
                    self.assertEqual(made.table(name), whole[name])


class Back(unittest.TestCase):
    def test_bare(self):
        made = Kept(TABLES, PLAN)
        self.assertRaises(Bare, made.back)
        made.turn([], VISITS)
        made.back()
        self.assertRaises(Bare, made.back)
        self.assertEqual((made.derived(), len(made)), (derived(TABLES, PLAN, NONE), 0))

    def test_told_the_other_way_about(self):
        made = kept()
        before = made.derived()
        told = made.turn([v(0), v(1)], [(v(1), ("cid", 9, 9)), (v(7), ("ann", 0, 3))])
        self.assertEqual(made.back(), {name: (comes, goes) for name, (goes, comes) in told.items()})
        self.assertEqual((made.derived(), len(made)), (before, 1))
        # What came again may go again.
        self.assertEqual(made.turn([v(0)], [])["visit"], ([VISITS[0]], []))


class Refusals(unittest.TestCase):
    def refused(self, word, goes, comes):
        made = kept()
        before = made.derived()
        with self.assertRaises(NoTurn) as caught:
            made.turn(goes, comes)
        self.assertEqual(caught.exception.word, word, repr((goes, comes)))
        self.assertEqual((made.derived(), len(made)), (before, 1))
        self.assertEqual(made.turn([], []), {})
        made.back()
        made.back()
        self.assertEqual(made.derived(), derived(TABLES, PLAN, NONE))

    def test_goes_of_anything(self):
        for thing in of_any_kind() + [(v(0),), {v(0): 1}, {v(0)}, "visit", 0]:
            if thing != []:
                with self.subTest(thing=repr(thing)):
                    self.refused("goes", thing, [])
                    self.refused("goes", thing, None)
        for thing in of_any_kind() + [v(3), ("stay", ("s", 1)), ("mark", ("s", 0)), ("beside", ("s", 0)), list(v(0)),
                                      ("visit", ["s", 0]), ("visit", ("s", False)), ("visit", ("s", 0.0)), ("s", 0),
                                      ("visit",), v(0) + (0,), VISITS[0], ("beside", (v(1),)), ("none", ("s", 0))]:
            with self.subTest(thing=repr(thing)):
                self.refused("goes", [thing], [])
                self.refused("goes", [v(1), thing], [("no", "row")])
        self.refused("goes", [v(0), v(1), v(0)], [])

    def test_comes_of_anything(self):
        for thing in of_any_kind() + [((v(5), ("ann", 0, 0)),), {v(5): ("ann", 0, 0)}, "visit", 0]:
            if thing != []:
                with self.subTest(thing=repr(thing)):
                    self.refused("comes", [v(0)], thing)
        for thread in of_any_kind() + [v(1), ("beside", ("s", 5)), list(v(5)), ("visit", ["s", 5]), ("visit", ("s", True)),
                                       ("visit", ("s", 10000)), ("visit", ("s", -1)), ("visit", ("S", 5)), ("visit",),
                                       ("visit", ("s", 5, 5)), ("none", ("s", 5)), v(5) + (0,), ("visit", ("s", 5.0))]:
            with self.subTest(thread=repr(thread)):
                self.refused("comes", [v(0)], [(thread, ("ann", 0, 0))])
        for row in of_any_kind() + [("ann",), ("ann", 0), ("ann", 0, 0, 0), ["ann", 0, 0], ("ann", True, 0), (0, 0, 0),
                                    ("ann", 10, 0), ("ann", -1, 0), ("Ann", 0, 0), ("ann", "bob", 0), "ann"]:
            with self.subTest(row=repr(row)):
                self.refused("comes", [v(0)], [(v(5), row)])
        good = (v(5), ("ann", 0, 0))
        for pair in of_any_kind() + [list(good), good + (0,), good[:1], (good,), v(5)]:
            with self.subTest(pair=repr(pair)):
                self.refused("comes", [], [good, pair])

    def test_comes_that_stand_or_come_twice(self):
        self.refused("comes", [], [VISITS[0]])
        self.refused("comes", [v(0)], [VISITS[0], VISITS[1]])
        self.refused("comes", [v(0)], [VISITS[0], (v(0), ("bob", 0, 0))])
        self.refused("comes", [], [(v(5), ("bob", 0, 0))] * 2)

    def test_a_key_may_stand_in_several_tables(self):
        made = kept()
        made.turn([], [(("mark", ("s", 0)), (1,)), (("stay", ("s", 5)), (None, None))])
        self.assertEqual((len(made.table("mark")), len(made.table("stay"))), (1, 2))

    def test_made_of(self):
        for thing in of_any_kind() + [list(TABLES), TABLES[0], TABLES + TABLES[:1]]:
            self.assertRaises(NoTables, Kept, thing, ("no plan",))
        for thing, number in ((list(PLAN), None), (PLAN + (PLAN[0],), 4), (PLAN[2:] + (("x", ()),), 2), (None, None)):
            with self.assertRaises(NoPlan) as caught:
                Kept(TABLES, thing)
            self.assertEqual(caught.exception.number, number)

    def test_no_table(self):
        for thing in of_any_kind() + ["none", ["visit"], ("visit",), 0]:
            with self.assertRaises(NoTable) as caught:
                kept().table(thing)
            self.assertIs(caught.exception.name, thing)


class Own(unittest.TestCase):
    def test_twin_goes_on_by_itself(self):
        made = kept()
        twin = made.twin()
        self.assertEqual((twin.derived(), len(twin)), (made.derived(), 1))
        twin.turn([v(0)], [])
        made.back()
        self.assertEqual((len(made), len(twin)), (0, 2))
        self.assertEqual(made.derived(), derived(TABLES, PLAN, NONE))
        twin.back()
        self.assertEqual(twin.derived(), kept().derived())
        twin.back()
        self.assertRaises(Bare, twin.back)

    def test_told_is_new_and_what_is_handed_in_stays(self):
        made = kept()
        before = made.derived()
        made.derived()["visit"].clear()
        made.derived().clear()
        made.table("visit").clear()
        goes, comes = [v(2), v(0)], [(v(8), ("bob", 0, 0)), (v(7), ("ann", 0, 0))]
        handed = copy.deepcopy((goes, comes))
        told = made.turn(goes, comes)
        self.assertEqual((goes, comes), handed)
        told["visit"][0].clear()
        told["visit"][1].clear()
        told.clear()
        goes.clear()
        comes.clear()
        for rows in made.back().values():
            rows[0].clear()
        self.assertEqual(made.derived(), before)

    def test_by_the_names_of_the_interface(self):
        made = Kept(tables=TABLES, plan=PLAN)
        made.turn(goes=[], comes=VISITS)
        self.assertEqual(made.table(name="visit"), VISITS)

    def test_without_a_plan(self):
        made = Kept(TABLES, ())
        self.assertEqual(made.turn([], VISITS), {"visit": ([], VISITS)})
        self.assertEqual(made.derived(), {**NONE, "visit": VISITS})


if __name__ == "__main__":
    unittest.main()
