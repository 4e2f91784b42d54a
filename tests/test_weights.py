import copy
import random
import unittest

from asnevertold.deriving import derived
from asnevertold.errors import NoColumn, NoSum, NoTable
from asnevertold.plans import columns_of
from asnevertold.weights import weights
from things import MANY_NAMES, of_any_kind, some_stands, standing, visits_and_stays

TABLES = visits_and_stays()
STANDS = {
    "visit": standing("visit", ("ann", 1, 5), ("bob", 0, None), (None, 3, 4), ("ann", 4, 2)),
    "stay": standing("stay", ("ann", 7), ("ann", None), ("cid", 2)),
    "mark": standing("mark", (3,), (None,)),
}
# Nothing here hangs on the cells that are summed: which rows are chosen, their lots and their order stay.
STRAIGHT = (
    ("a", ("more", "visit", "z", "cost", "less", "day")),
    ("b", ("more", "a", "y", "z", "plus", "cost")),
    ("c", ("window", "a", ("who",), "day", 2, "cost")),
    ("d", ("join", "b", "stay", "who", "guest")),
    ("e", ("outer", "visit", "stay", "who", "guest")),
    ("f", ("group", "e", ("who",), "sum", "night")),
    ("g", ("group", "c", (), "sum", "window")),
    ("h", ("keep", "visit", "who", "is", "ann")),
    ("i", ("both", "h", "visit")),
    ("j", ("group", "i", (), "sum", "cost")),
)


def cells(name, column, *numbers):
    """The cells of a column by the numbers of their rows."""
    return [(("s", number), column) for number in numbers]


def told(plan, name, column, stands=STANDS):
    """The weights."""
    return weights(TABLES, plan, derived(TABLES, plan, stands), name, column)


def total(plan, stands, name, column):
    """The sum of the column."""
    place = [one for one, _ in columns_of(TABLES, plan, name)].index(column)
    return sum(row[place] or 0 for _, row in derived(TABLES, plan, stands)[name])


class ByHand(unittest.TestCase):
    def weighs(self, plan, name, column, wanted):
        found = told(plan, name, column)
        self.assertEqual(found, wanted)
        self.assertEqual(list(found), sorted(wanted))

    def test_a_table(self):
        # None weighs nothing, and neither does what is known to all.
        self.weighs((), "visit", "cost", {(("s", 0), "cost"): 1, (("s", 3), "cost"): 1})
        self.weighs((), "visit", "day", {(("s", 0), "day"): 1, (("s", 1), "day"): 1, (("s", 3), "day"): 1})
        self.weighs((), "mark", "grade", {})
        self.weighs((), "stay", "night", {(("s", 0), "night"): 1, (("s", 2), "night"): 1})

    def test_keep_and_first(self):
        plan = (("k", ("keep", "visit", "cost", "least", 3)), ("f", ("first", "visit", ("who",), "day")))
        self.weighs(plan, "k", "cost", {(("s", 0), "cost"): 1})
        self.weighs(plan, "f", "day", {(("s", 0), "day"): 1, (("s", 1), "day"): 1})

    def test_more(self):
        plan = (("m", ("more", "visit", "z", "cost", "less", "day")), ("n", ("more", "m", "y", "z", "plus", "cost")),
                ("o", ("more", "visit", "z", "day", "less", "day")), ("p", ("more", "visit", "z", "day", "plus", "day")))
        one = {(("s", 0), "cost"): 1, (("s", 0), "day"): -1, (("s", 3), "cost"): 1, (("s", 3), "day"): -1}
        self.weighs(plan, "m", "z", one)
        self.weighs(plan, "n", "y", {cell: 2 if cell[1] == "cost" else -1 for cell in one})
        self.weighs(plan, "n", "z", one)
        self.weighs(plan, "o", "z", {})
        self.weighs(plan, "p", "z", {(("s", number), "day"): 2 for number in (0, 1, 3)})

    def test_join_and_outer(self):
        plan = (("j", ("join", "visit", "stay", "who", "guest")), ("o", ("outer", "visit", "stay", "who", "guest")))
        self.weighs(plan, "j", "cost", {(("s", 0), "cost"): 2, (("s", 3), "cost"): 2})
        self.weighs(plan, "j", "night", {(("s", 0), "night"): 2})
        self.weighs(plan, "o", "day", {(("s", 0), "day"): 2, (("s", 1), "day"): 1, (("s", 3), "day"): 2})
        self.weighs(plan, "o", "night", {(("s", 0), "night"): 2})

    def test_group_and_window(self):
        plan = (("g", ("group", "visit", ("who",), "sum", "cost")), ("w", ("window", "visit", (), "day", 2, "cost")),
                ("x", ("group", "w", (), "sum", "window")))
        self.weighs(plan, "g", "sum", {(("s", 0), "cost"): 1, (("s", 3), "cost"): 1})
        # In order: 1 (None), 0 (5), 2 (of nobody), 3 (2).
        for name, column in (("w", "window"), ("x", "sum")):
            self.weighs(plan, name, column, {(("s", 0), "cost"): 2, (("s", 3), "cost"): 1})
        self.weighs(plan, "w", "cost", {(("s", 0), "cost"): 1, (("s", 3), "cost"): 1})

    def test_both(self):
        plan = (("k", ("keep", "visit", "who", "is", "ann")), ("b", ("both", "k", "visit")))
        self.weighs(plan, "b", "cost", {(("s", 0), "cost"): 2, (("s", 3), "cost"): 2})

    def test_cells_that_a_row_lacks_are_read(self):
        stands = {"visit": [(("visit", ("s", 0)), ("ann", 0, None))], "stay": [], "mark": []}
        self.assertEqual(told((), "visit", "day", stands), {(("s", 0), "day"): 1})

    def test_of_no_rows(self):
        stands = {"visit": [], "stay": [], "mark": []}
        for name, column in (("a", "z"), ("e", "night"), ("f", "sum"), ("g", "sum"), ("j", "sum")):
            self.assertEqual(told(STRAIGHT, name, column, stands), {})


class Refusals(unittest.TestCase):
    def straight(self, plan, *pairs):
        for name, column in pairs:
            self.assertIsInstance(told(plan, name, column), dict)

    def crooked(self, plan, *pairs):
        for name, column in pairs:
            self.assertIn(column, dict(columns_of(TABLES, plan, name)))
            with self.assertRaises(NoSum, msg=(name, column)):
                told(plan, name, column)

    def test_columns_of_persons(self):
        plan = (("k", ("keep", "visit", "day", "least", 1)), ("g", ("group", "visit", ("who",), "sum", "day")))
        self.crooked(plan, ("visit", "who"), ("stay", "guest"), ("k", "who"), ("g", "who"))

    def test_groups(self):
        plan = (("m", ("group", "visit", ("day",), "many", None)), ("l", ("group", "visit", (), "least", "cost")),
                ("h", ("group", "visit", ("day",), "most", "cost")), ("s", ("group", "visit", ("day",), "sum", "cost")))
        self.crooked(plan, ("m", "many"), ("m", "day"), ("l", "least"), ("h", "most"), ("h", "day"), ("s", "day"))
        self.straight(plan, ("s", "sum"))

    def test_what_comes_of_what_is_not_straight(self):
        plan = (
            ("m", ("group", "visit", ("day",), "many", None)),
            ("s", ("group", "visit", ("day",), "sum", "cost")),
            ("a", ("group", "m", (), "sum", "many")), ("b", ("group", "s", (), "sum", "sum")),
            ("c", ("window", "m", (), "day", 2, "many")), ("d", ("window", "s", (), "day", 2, "sum")),
            ("e", ("more", "s", "z", "sum", "plus", "day")), ("f", ("more", "s", "z", "sum", "plus", "sum")),
            ("g", ("join", "s", "stay", "day", "night")), ("h", ("outer", "stay", "m", "night", "day")),
            ("i", ("keep", "m", "many", "least", 1)), ("j", ("first", "m", (), "day")),
        )
        self.crooked(plan, ("a", "sum"), ("c", "window"), ("c", "many"), ("c", "day"), ("d", "day"), ("e", "z"),
                     ("e", "day"), ("g", "day"), ("h", "many"), ("i", "many"), ("j", "many"))
        self.straight(plan, ("b", "sum"), ("d", "window"), ("d", "sum"), ("e", "sum"), ("f", "z"), ("g", "sum"),
                      ("h", "night"))

    def test_both_asks_for_both_sources(self):
        plan = (("a", ("group", "visit", ("day",), "sum", "cost")), ("b", ("group", "visit", ("day",), "sum", "day")),
                ("c", ("group", "visit", ("day",), "many", None)), ("d", ("group", "c", ("day",), "sum", "many")),
                ("e", ("both", "a", "b")), ("f", ("both", "d", "a")), ("g", ("both", "a", "d")))
        self.assertEqual(told(plan, "e", "sum"), {**{(("s", number), "cost"): 1 for number in (0, 3)},
                                                  **{(("s", number), "day"): 1 for number in (0, 1, 3)}})
        # A sum of counts is one of both sources.
        self.crooked(plan, ("e", "day"), ("d", "sum"), ("f", "sum"), ("g", "sum"))

    def test_no_table_no_column_ahead_of_no_sum(self):
        for name in of_any_kind() + ["none", 0, ["visit"]]:
            for column in ("cost", "who", "none", None):
                with self.assertRaises(NoTable) as caught:
                    told(STRAIGHT, name, column)
                self.assertIs(caught.exception.name, name)
        for column in of_any_kind() + ["none", "night", 0, ["cost"], ("cost",)]:
            for name in ("visit", "a"):
                with self.assertRaises(NoColumn) as caught:
                    told(STRAIGHT, name, column)
                self.assertIs(caught.exception.name, column)

    def test_what_is_handed_in_stays(self):
        there = derived(TABLES, STRAIGHT, STANDS)
        kept = copy.deepcopy(there)
        weights(TABLES, STRAIGHT, there, "d", "y").clear()
        self.assertEqual(there, kept)
        self.assertEqual(weights(tables=TABLES, plan=STRAIGHT, derived=there, name="d", column="y"),
                         told(STRAIGHT, "d", "y"))


class Drawn(unittest.TestCase):
    def test_a_cell_weighs_what_the_sum_turns_by(self):
        asked = (
            ("visit", "cost"), ("a", "z"), ("b", "y"), ("c", "window"), ("c", "z"), ("d", "y"), ("d", "night"),
            ("e", "cost"), ("e", "night"), ("f", "sum"), ("g", "sum"), ("h", "cost"), ("i", "cost"), ("j", "sum"))
        tried = 0
        for seed in range(60):
            stands = some_stands(seed)
            # A key stands in one table alone.
            stands["stay"] = [((name, ("t", key[1])), row) for (name, key), row in stands["stay"]]
            for name, column in asked:
                found = told(STRAIGHT, name, column, stands)
                self.assertNotIn(0, found.values())
                wanted = {}
                for table, place, word in (("visit", 2, "cost"), ("stay", 1, "night")):
                    for at, (thread, row) in enumerate(stands[table]):
                        if row[place] is None or row[0] is None:
                            continue
                        other = copy.deepcopy(stands)
                        other[table][at] = (thread, row[:place] + (row[place] + 1,) + row[place + 1:])
                        turned = total(STRAIGHT, other, name, column) - total(STRAIGHT, stands, name, column)
                        if turned:
                            wanted[thread[1], word] = turned
                self.assertEqual({cell: many for cell, many in found.items() if cell[1] != "day"}, wanted)
                tried += len(wanted)
        self.assertGreater(tried, 1000)

    def test_the_cells_by_their_weights_are_the_sum(self):
        tried = 0
        for seed in range(60):
            stands = some_stands(seed)
            chance = random.Random(seed)
            stands["stay"] = [((name, ("t", key[1])), row) for (name, key), row in stands["stay"]]
            # Where each row has somebody, a sum is just what its cells weigh.
            for table in ("visit", "stay"):
                stands[table] = [(thread, (row[0] or chance.choice("xyz"),) + row[1:]) for thread, row in stands[table]]
            there = {}
            for table in TABLES:
                for thread, row in stands[table[0]]:
                    there.update({(thread[1], column[0]): cell for column, cell in zip(table[1], row)})
            for name, column in (("a", "d"), ("b", "window"), ("c", "night"), ("e", "window"), ("e", "d"), ("f", "cost"),
                                 ("g", "night"), ("h", "night"), ("h", "day")):
                found = told(MANY_NAMES, name, column, stands)
                self.assertEqual(sum(many * there[cell] for cell, many in found.items()),
                                 total(MANY_NAMES, stands, name, column))
                tried += len(found)
        self.assertGreater(tried, 1000)


if __name__ == "__main__":
    unittest.main()
