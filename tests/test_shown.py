import unittest

from asnevertold.deriving import keys_of
from asnevertold.errors import NoMoment, NoPerson
from asnevertold.house import House
from asnevertold.tables import persons_of
from asnevertold.threads import hanging
from drawn import NAMES, PLAN, TABLES, drawn
from things import of_any_kind


def at(number, name, row, since=0, known=0, rights=None):
    """An entry."""
    return ("s", number), name, row, since, None, known, None if rights is None else ("s", rights), None


def house_of(*entries):
    """A house that was told these."""
    house = House(TABLES, PLAN)
    for entry in entries:
        house.tell(entry)
    return house


class Shown(unittest.TestCase):
    def test_by_hand(self):
        house = house_of(at(0, "visit", ("ann", 1, 5)), at(1, "visit", ("bob", 2, 3)), at(2, "stay", ("ann", "bob", 3)),
                         at(3, "mark", (7,)), at(4, "mark", (8, "ann")))
        keys = [("s", 0), ("s", 2)]
        self.assertEqual(house.shown("ann", 0), [
            ("visit", ("ann", 1, 5)),
            ("stay", keys[1:]),
            ("mark", (8, "ann")),
            ("dear", ("ann", 1, 5)),
            ("beside", keys),
            ("less", ("ann", 1, 5, 4)),
            ("sums", ("ann", 5)),
            ("runs", ("ann", 1, 5, 4, 4)),
            ("runs", keys[:1]),
            ("firsts", keys),
            ("twice", ("ann", 1, 5)),
            ("twice", ("ann", 1, 5)),
            ("most", keys[1:]),
        ])
        self.assertEqual(house.shown("eve", 0), [])

    def test_of_nobodys_rows_all_is_shown(self):
        # A row beside one without persons is shown, for nobody else is in it.
        house = House((("one", (("who", "person", None), ("n", "number", 0)), "row"),), (("g", ("group", "one", (), "sum", "n")),))
        house.tell(at(0, "one", ("ann", 3)))
        house.tell(at(1, "one", (None, 4)))
        self.assertEqual(house.shown("ann", 0), [("one", ("ann", 3)), ("g", (7,))])
        house.tell(at(2, "one", ("bob", 5)))
        self.assertEqual(house.shown("ann", 0), [("one", ("ann", 3)), ("g", [("s", 0)])])

    def test_so_at_a_moment_as_all_is_known(self):
        house = house_of(at(0, "mark", (7, "ann"), since=3, known=5), at(1, "mark", (8, "ann"), since=4, known=6, rights=0))
        self.assertEqual([house.shown("ann", so) for so in (3, 4, 9)], [[], [("mark", (8, "ann"))], [("mark", (8, "ann"))]])

    def test_refusals(self):
        house = house_of(at(0, "mark", (7, "ann")))
        for thing in of_any_kind() + ["Ann", ["ann"], 0]:
            if not (isinstance(thing, str) and thing == "ann"):
                for so in (0, None, True):
                    with self.assertRaises(NoPerson) as caught:
                        house.shown(thing, so)
                    self.assertIs(caught.exception.thing, thing)
            if thing != 0 or isinstance(thing, bool):
                with self.assertRaises(NoMoment) as caught:
                    house.shown("ann", thing)
                self.assertIs(caught.exception.thing, thing)
        for so in (-1, 1000, True, False, 1.0):
            self.assertRaises(NoMoment, house.shown, "ann", so)

    def test_all_that_hangs_on_the_rows_and_nothing_of_others(self):
        shown = {"row": 0, "keys": 0}
        for seed in range(40):
            house, _, _ = drawn(seed, 24)
            rows = {entry[0]: persons_of(entry[2] or ()) for entry in house.history().entries()}
            for person in ("ann", "bob", "eve"):
                for so in (0, 5):
                    lists, wanted = house.derived(so), []
                    hangs = [pair for key in rows if person in rows[key] for pair in hanging(lists, key)]
                    for name in NAMES:
                        for thread, row in lists[name]:
                            if (name, thread) in hangs:
                                keys = keys_of(thread)
                                theirs = [key for key in keys if person in rows[key]]
                                others = [one for key in keys for one in rows[key] if one != person]
                                wanted.append((name, theirs if others else row))
                    told = house.shown(person, so)
                    self.assertEqual(told, wanted)
                    for name, what in told:
                        shown["keys" if isinstance(what, list) else "row"] += 1
                        if isinstance(what, tuple):
                            self.assertEqual(set(persons_of(what)) - {person}, set())
        self.assertGreater(min(shown.values()), 50)

    def test_behind_a_forgetting_nothing_is(self):
        for seed in range(20):
            house, _, _ = drawn(seed, 20)
            house.forget("ann")
            self.assertEqual(house.shown("ann", 5), [])

    def test_told_is_new(self):
        house = house_of(at(2, "stay", ("ann", "bob", 3)))
        told = house.shown("ann", 0)
        told[0][1].clear()
        told.clear()
        self.assertEqual(house.shown("ann", 0)[0], ("stay", [("s", 2)]))


if __name__ == "__main__":
    unittest.main()
