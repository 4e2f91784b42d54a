import copy
import itertools
import unittest

from asnevertold.deriving import derived, keys_of
from asnevertold.plans import columns_of
from things import MANY_NAMES, some_stands, standing, thread, visits_and_stays

TABLES = visits_and_stays()


def told(deriving, visit=(), stay=(), mark=(), plan=()):
    """The list of a deriving called x, behind a plan, of these rows."""
    stands = {"visit": standing("visit", *visit), "stay": standing("stay", *stay), "mark": standing("mark", *mark)}
    return derived(TABLES, (*plan, ("x", deriving)), stands)["x"]


def v(number):
    """The thread of a visit."""
    return ("visit", ("s", number))


def s(number):
    """The thread of a stay."""
    return ("stay", ("s", number))


VISITS = [("ann", 1, 5), ("bob", None, 5), (None, 2, None), ("ann", 0, 0), ("cid", 2, 9)]


class Keep(unittest.TestCase):
    def kept(self, column, word, cell):
        """The numbers of the visits that are kept."""
        rows = told(("keep", "visit", column, word, cell), VISITS)
        for (name, threads), row in rows:
            self.assertEqual((name, len(threads)), ("x", 1))
            self.assertEqual(row, VISITS[threads[0][1][1]])
        return [threads[0][1][1] for (name, threads), row in rows]

    def test_is(self):
        self.assertEqual(self.kept("who", "is", "ann"), [0, 3])
        self.assertEqual(self.kept("who", "is", "dan"), [])
        self.assertEqual(self.kept("cost", "is", 5), [0, 1])
        self.assertEqual(self.kept("cost", "is", 0), [3])
        self.assertEqual(self.kept("day", "is", 0), [3])

    def test_is_none(self):
        self.assertEqual(self.kept("who", "is", None), [2])
        self.assertEqual(self.kept("day", "is", None), [1])
        self.assertEqual(self.kept("cost", "is", None), [2])

    def test_least_and_most_never_of_none(self):
        self.assertEqual(self.kept("cost", "least", 0), [0, 1, 3, 4])
        self.assertEqual(self.kept("cost", "least", 5), [0, 1, 4])
        self.assertEqual(self.kept("cost", "least", 6), [4])
        self.assertEqual(self.kept("cost", "most", 9), [0, 1, 3, 4])
        self.assertEqual(self.kept("cost", "most", 5), [0, 1, 3])
        self.assertEqual(self.kept("day", "most", 0), [3])

    def test_is_of_numbers_that_derivings_make(self):
        less = ("a", ("more", "visit", "d", "day", "less", "cost"))
        rows = told(("keep", "a", "d", "is", -4), VISITS, plan=(less,))
        self.assertEqual(rows, [(thread("x", thread("a", v(0))), ("ann", 1, 5, -4))])
        self.assertEqual(len(told(("keep", "a", "d", "is", None), VISITS, plan=(less,))), 2)
        self.assertEqual(len(told(("keep", "a", "d", "most", 0), VISITS, plan=(less,))), 3)


class More(unittest.TestCase):
    def cells(self, column, word, other):
        rows = told(("more", "visit", "y", column, word, other), VISITS)
        self.assertEqual([pair[0] for pair in rows], [thread("x", v(number)) for number in range(5)])
        self.assertEqual([pair[1][:-1] for pair in rows], VISITS)
        return [pair[1][-1] for pair in rows]

    def test_plus_and_less(self):
        self.assertEqual(self.cells("day", "plus", "cost"), [6, None, None, 0, 11])
        self.assertEqual(self.cells("day", "less", "cost"), [-4, None, None, 0, -7])
        self.assertEqual(self.cells("cost", "less", "day"), [4, None, None, 0, 7])
        self.assertEqual(self.cells("cost", "plus", "cost"), [10, 10, None, 0, 18])
        self.assertEqual(self.cells("day", "less", "day"), [0, None, 0, 0, 0])


class Join(unittest.TestCase):
    STAYS = [("ann", 3), (None, 4), ("ann", None), ("dan", 2)]

    def test_each_with_each_that_is_alike_never_none(self):
        rows = told(("join", "visit", "stay", "who", "guest"), VISITS, self.STAYS)
        self.assertEqual(rows, [
            (thread("x", v(0), s(0)), ("ann", 1, 5, 3)),
            (thread("x", v(0), s(2)), ("ann", 1, 5, None)),
            (thread("x", v(3), s(0)), ("ann", 0, 0, 3)),
            (thread("x", v(3), s(2)), ("ann", 0, 0, None)),
        ])

    def test_by_a_column_that_is_not_the_first(self):
        rows = told(("join", "visit", "stay", "day", "night"), VISITS, self.STAYS)
        self.assertEqual(rows, [
            (thread("x", v(2), s(3)), (None, 2, None, "dan")),
            (thread("x", v(4), s(3)), ("cid", 2, 9, "dan")),
        ])

    def test_by_nought(self):
        rows = told(("join", "visit", "stay", "cost", "night"), [("ann", 1, 0)], [("bob", 0), ("cid", None)])
        self.assertEqual(rows, [(thread("x", v(0), s(0)), ("ann", 1, 0, "bob"))])

    def test_a_name_with_itself(self):
        marks = [(5,), (None,), (5,)]
        rows = told(("join", "mark", "mark", "grade", "grade"), mark=marks)
        self.assertEqual(rows, [
            (thread("x", ("mark", ("s", one)), ("mark", ("s", other))), (5,)) for one in (0, 2) for other in (0, 2)
        ])

    def test_without_rows(self):
        self.assertEqual(told(("join", "visit", "stay", "who", "guest"), VISITS, ()), [])
        self.assertEqual(told(("join", "visit", "stay", "who", "guest"), (), self.STAYS), [])
        self.assertEqual(told(("outer", "visit", "stay", "who", "guest"), (), self.STAYS), [])

    def test_outer(self):
        rows = told(("outer", "visit", "stay", "who", "guest"), VISITS, self.STAYS)
        self.assertEqual(rows, [
            (thread("x", v(0), s(0)), ("ann", 1, 5, 3)),
            (thread("x", v(0), s(2)), ("ann", 1, 5, None)),
            (thread("x", v(1)), ("bob", None, 5, None)),
            (thread("x", v(2)), (None, 2, None, None)),
            (thread("x", v(3), s(0)), ("ann", 0, 0, 3)),
            (thread("x", v(3), s(2)), ("ann", 0, 0, None)),
            (thread("x", v(4)), ("cid", 2, 9, None)),
        ])

    def test_outer_without_another(self):
        rows = told(("outer", "stay", "visit", "guest", "who"), (), self.STAYS)
        self.assertEqual(rows, [(thread("x", s(at)), row + (None, None)) for at, row in enumerate(self.STAYS)])
        rows = told(("outer", "mark", "mark", "grade", "grade"), mark=[(5,), (None,)])
        five, none = ("mark", ("s", 0)), ("mark", ("s", 1))
        self.assertEqual(rows, [(thread("x", five, five), (5,)), (thread("x", none), (None,))])


class Group(unittest.TestCase):
    ROWS = [("ann", 1, 5), ("bob", None, 2), ("ann", 1, None), (None, 3, 4), ("ann", None, 1), (None, None, None)]

    def rows(self, by, word, column):
        return told(("group", "visit", by, word, column), self.ROWS)

    def test_many_by_one(self):
        self.assertEqual(self.rows(("who",), "many", None), [
            (thread("x", v(0), v(2), v(4)), ("ann", 3)),
            (thread("x", v(1)), ("bob", 1)),
            (thread("x", v(3), v(5)), (None, 2)),
        ])

    def test_sum_least_most_of_cells_but_none(self):
        def cells(word):
            return [row for _, row in self.rows(("who",), word, "cost")]

        self.assertEqual(cells("sum"), [("ann", 6), ("bob", 2), (None, 4)])
        self.assertEqual(cells("least"), [("ann", 1), ("bob", 2), (None, 4)])
        self.assertEqual(cells("most"), [("ann", 5), ("bob", 2), (None, 4)])

    def test_of_no_cells(self):
        for word, cell in (("sum", 0), ("least", None), ("most", None), ("many", 2)):
            column = None if word == "many" else "cost"
            rows = told(("group", "visit", (), word, column), [("ann", 1, None), ("bob", 2, None)])
            self.assertEqual(rows, [(thread("x", v(0), v(1)), (cell,))])

    def test_by_two_in_the_order_of_by(self):
        self.assertEqual(self.rows(("day", "who"), "sum", "cost"), [
            (thread("x", v(0), v(2)), (1, "ann", 5)),
            (thread("x", v(1)), (None, "bob", 2)),
            (thread("x", v(3)), (3, None, 4)),
            (thread("x", v(4)), (None, "ann", 1)),
            (thread("x", v(5)), (None, None, 0)),
        ])

    def test_by_none(self):
        rows = self.rows((), "sum", "day")
        self.assertEqual(rows, [(thread("x", *[v(number) for number in range(6)]), (5,))])
        self.assertEqual(told(("group", "visit", (), "many", None)), [])
        self.assertEqual(told(("group", "visit", (), "sum", "cost")), [])
        self.assertEqual(told(("group", "visit", ("who",), "sum", "cost")), [])

    def test_numbers_below_nought(self):
        plan = (("a", ("more", "visit", "d", "day", "less", "cost")),)
        visits = [("ann", 1, 5), ("ann", 0, 9), ("ann", 9, 2)]
        found = [told(("group", "a", ("who",), word, "d"), visits, plan=plan)[0][1][1]
                 for word in ("sum", "least", "most")]
        self.assertEqual(found, [-6, -9, 7])


class Window(unittest.TestCase):
    ROWS = [("ann", 5, 1), ("bob", 3, 2), ("ann", None, 4), ("ann", 5, None), ("bob", 3, 8), ("ann", 2, 3)]

    def test_of_one(self):
        rows = told(("window", "visit", ("who",), "day", 1, "cost"), self.ROWS)
        self.assertEqual(rows, [(thread("x", v(at)), row + (row[2] or 0,)) for at, row in enumerate(self.ROWS)])

    def test_of_two_over_lots_with_equal_cells_in_order(self):
        rows = told(("window", "visit", ("who",), "day", 2, "cost"), self.ROWS)
        # Of ann they go 2 (None), 5, 0, 3; of bob 1, 4.
        self.assertEqual(rows, [
            (thread("x", v(0), v(5)), ("ann", 5, 1, 4)),
            (thread("x", v(1)), ("bob", 3, 2, 2)),
            (thread("x", v(2)), ("ann", None, 4, 4)),
            (thread("x", v(3), v(0)), ("ann", 5, None, 1)),
            (thread("x", v(4), v(1)), ("bob", 3, 8, 10)),
            (thread("x", v(5), v(2)), ("ann", 2, 3, 7)),
        ])

    def test_of_five_the_next_first(self):
        rows = [("ann", 9 - at, at) for at in range(7)]
        made = told(("window", "visit", (), "day", 5, "cost"), rows)
        for at, (found, row) in enumerate(made):
            ahead = list(range(at, min(7, at + 5)))
            self.assertEqual(found, thread("x", *[v(number) for number in ahead]))
            self.assertEqual(row, rows[at] + (sum(ahead),))

    def test_of_no_cells_it_is_nought(self):
        made = told(("window", "visit", (), "day", 3, "cost"), [("ann", 1, None), ("bob", 2, None)])
        self.assertEqual([row[-1] for _, row in made], [0, 0])

    def test_the_order_itself_may_be_summed(self):
        made = told(("window", "visit", (), "day", 2, "day"), [("ann", 3, 0), ("ann", None, 0), ("ann", 1, 0)])
        self.assertEqual(made, [
            (thread("x", v(0), v(2)), ("ann", 3, 0, 4)),
            (thread("x", v(1)), ("ann", None, 0, 0)),
            (thread("x", v(2), v(1)), ("ann", 1, 0, 1)),
        ])

    def test_by_none_among_cells(self):
        made = told(("window", "visit", ("who", "cost"), "day", 5, "day"),
                    [(None, 1, None), ("ann", 1, None), (None, 2, None), (None, 4, 0)])
        self.assertEqual([row[-1] for _, row in made], [1, 1, 3, 4])


class First(unittest.TestCase):
    def test_of_each_lot(self):
        rows = [("ann", 5, 1), ("bob", 3, 2), ("ann", 2, 4), ("bob", None, 0), (None, 7, 7), ("ann", 2, 9)]
        made = told(("first", "visit", ("who",), "day"), rows)
        self.assertEqual(made, [
            (thread("x", v(2)), ("ann", 2, 4)),
            (thread("x", v(3)), ("bob", None, 0)),
            (thread("x", v(4)), (None, 7, 7)),
        ])
        self.assertEqual(told(("first", "visit", (), "day"), rows), [(thread("x", v(3)), ("bob", None, 0))])
        self.assertEqual(told(("first", "visit", (), "cost"), rows), [(thread("x", v(3)), ("bob", None, 0))])
        self.assertEqual(told(("first", "visit", (), "day")), [])

    def test_of_equal_cells_by_thread(self):
        made = told(("first", "visit", (), "day"), [("bob", 2, 1), ("ann", 2, 0)])
        self.assertEqual(made, [(thread("x", v(0)), ("bob", 2, 1))])

    def test_numbers_below_nought_go_behind_none(self):
        plan = (("a", ("more", "visit", "d", "day", "less", "cost")),)
        for days, at in (((1, 0), 1), ((1, None), 1), ((None, 0), 0)):
            visits = [("ann", day, 9) for day in days]
            made = told(("first", "a", (), "d"), visits, plan=plan)
            self.assertEqual(made[0][0], thread("x", thread("a", v(at))))


class Both(unittest.TestCase):
    def test_rows_of_either(self):
        plan = (("z", ("keep", "visit", "who", "is", "ann")),)
        made = told(("both", "z", "visit"), [("ann", 1, 1), ("bob", 2, None)], plan=plan)
        self.assertEqual(made, [
            (thread("x", v(0)), ("ann", 1, 1)),
            (thread("x", v(1)), ("bob", 2, None)),
            (thread("x", thread("z", v(0))), ("ann", 1, 1)),
        ])
        turned = told(("both", "visit", "z"), [("ann", 1, 1), ("bob", 2, None)], plan=plan)
        self.assertEqual(turned, made)


DEEP = (
    ("dear", ("keep", "visit", "cost", "least", 2)),
    ("beside", ("outer", "dear", "stay", "who", "guest")),
    ("sums", ("group", "beside", ("who",), "sum", "cost")),
)


class Whole(unittest.TestCase):
    STANDS = {
        "visit": standing("visit", ("ann", 1, 5), ("bob", 2, 1), ("bob", 3, 4), ("ann", 4, 2)),
        "stay": standing("stay", ("ann", 7), ("ann", 8)),
        "mark": standing("mark", (3,)),
    }

    def test_three_deep(self):
        lists = derived(TABLES, DEEP, self.STANDS)
        dear = [thread("dear", v(number)) for number in (0, 2, 3)]
        beside = [thread("beside", dear[0], s(0)), thread("beside", dear[0], s(1)), thread("beside", dear[1]),
                  thread("beside", dear[2], s(0)), thread("beside", dear[2], s(1))]
        self.assertEqual(lists["dear"], [(dear[0], ("ann", 1, 5)), (dear[1], ("bob", 3, 4)), (dear[2], ("ann", 4, 2))])
        self.assertEqual([found for found, row in lists["beside"]], beside)
        self.assertEqual(lists["sums"], [
            (thread("sums", beside[0], beside[1], beside[3], beside[4]), ("ann", 14)),
            (thread("sums", beside[2]), ("bob", 4)),
        ])
        self.assertEqual(sorted(lists), ["beside", "dear", "mark", "stay", "sums", "visit"])

    def test_tables_as_they_stand(self):
        self.assertEqual(derived(TABLES, (), self.STANDS), self.STANDS)
        self.assertEqual({name: derived(TABLES, DEEP, self.STANDS)[name] for name in self.STANDS}, self.STANDS)

    def test_no_rows_at_all(self):
        lists = derived(TABLES, DEEP, {"visit": [], "stay": [], "mark": []})
        self.assertEqual(lists, {name: [] for name in ("visit", "stay", "mark", "dear", "beside", "sums")})

    def test_stands_in_another_order(self):
        for names in itertools.permutations(self.STANDS):
            stands = {name: self.STANDS[name] for name in names}
            lists = derived(TABLES, DEEP, stands)
            self.assertEqual(lists, derived(TABLES, DEEP, self.STANDS))
            self.assertEqual(list(lists), list(derived(TABLES, DEEP, self.STANDS)))

    def test_told_lists_are_new(self):
        stands = copy.deepcopy(self.STANDS)
        lists = derived(TABLES, DEEP, stands)
        kept = copy.deepcopy(lists)
        for name in lists:
            lists[name].clear()
        self.assertEqual(stands, self.STANDS)
        self.assertEqual(derived(TABLES, DEEP, stands), kept)

    def test_what_is_handed_in_stays(self):
        stands = copy.deepcopy(self.STANDS)
        derived(TABLES, DEEP, stands)
        self.assertEqual(stands, self.STANDS)
        self.assertEqual(TABLES, visits_and_stays())

    def test_sorted_by_thread_with_sources_of_unlike_names(self):
        rows = [(("visit", key), ("ann", 1, 1)) for key in [("a", 10), ("a", 9), ("b", 0), ("aa", 3)]]
        stands = {"visit": sorted(rows), "stay": [], "mark": []}
        made = derived(TABLES, (("x", ("keep", "visit", "who", "is", "ann")),), stands)["x"]
        self.assertEqual([row[0][1][0][1] for row in made], [("a", 9), ("a", 10), ("aa", 3), ("b", 0)])

    def test_by_the_names_of_the_interface(self):
        self.assertEqual(derived(stands=self.STANDS, plan=DEEP, tables=TABLES), derived(TABLES, DEEP, self.STANDS))
        self.assertEqual(keys_of(thread=v(3)), [("s", 3)])


class Threads(unittest.TestCase):
    def test_each_row_is_as_wide_as_its_columns(self):
        for seed in range(30):
            lists = derived(TABLES, MANY_NAMES, some_stands(seed))
            for name in lists:
                wide = len(columns_of(TABLES, MANY_NAMES, name))
                self.assertEqual({len(row) for _, row in lists[name]} - {wide}, set())

    def test_sorted_and_unlike(self):
        for seed in range(30):
            for name, rows in derived(TABLES, MANY_NAMES, some_stands(seed)).items():
                threads = [pair[0] for pair in rows]
                self.assertEqual(threads, sorted(set(threads)))
                self.assertEqual({found[0] for found in threads} - {name}, set())

    def test_the_rows_of_a_thread_alone_make_the_row_again(self):
        made = 0
        for seed in range(12):
            stands = some_stands(seed)
            for name, rows in derived(TABLES, MANY_NAMES, stands).items():
                for found, row in rows:
                    keys = keys_of(found)
                    left = {table: [pair for pair in stands[table] if belongs(pair[0], found)] for table in stands}
                    self.assertEqual(sorted({pair[0][1] for rest in left.values() for pair in rest}), keys)
                    again = dict(derived(TABLES, MANY_NAMES, left)[name])
                    self.assertEqual(again[found], row)
                    made += 1
        self.assertGreater(made, 300)


def belongs(inner, found):
    """Whether a table's thread is in the thread."""
    return inner == found or any(isinstance(one, tuple) and belongs(inner, one) for one in found)


class Keys(unittest.TestCase):
    def test_of_a_tables_thread(self):
        self.assertEqual(keys_of(("visit", ("src", 0))), [("src", 0)])

    def test_of_a_joined_one(self):
        found = thread("x", ("visit", ("b", 3)), ("stay", ("a", 12)))
        self.assertEqual(keys_of(found), [("a", 12), ("b", 3)])

    def test_of_a_window_of_a_group(self):
        groups = [thread("g", v(9), v(2)), thread("g", v(1)), thread("g", v(10), s(2))]
        self.assertEqual(keys_of(thread("w", *groups)), [("s", 1), ("s", 2), ("s", 9), ("s", 10)])

    def test_each_once(self):
        self.assertEqual(keys_of(thread("x", v(1), v(1))), [("s", 1)])
        self.assertEqual(keys_of(thread("y", thread("x", v(2), v(1)), thread("x", v(1), v(2)))), [("s", 1), ("s", 2)])

    def test_is_a_new_list(self):
        found = v(1)
        keys_of(found).clear()
        self.assertEqual(keys_of(found), [("s", 1)])
        self.assertIs(type(keys_of(found)), list)


if __name__ == "__main__":
    unittest.main()
