import copy
import unittest

from asnevertold.errors import NoPlan, NoTable
from asnevertold.plans import columns_of, look_at_plan
from things import of_any_kind, visits_and_stays

TABLES = visits_and_stays()
VISIT = [("who", "person"), ("day", "number"), ("cost", "number")]
STAY = [("guest", "person"), ("night", "number")]
MARK = [("grade", "number")]
NUMBERS_MORE = [-10 ** 60, -10000, -9999, -1, 0, 1, 2, 5, 6, 9, 10, 9999, 10000, 10 ** 60]


def chain(*derivings):
    """A plan of these, called a, b, c and so on."""
    return tuple([("abcdefghijklmnop"[place], deriving) for place, deriving in enumerate(derivings)])


def put(deriving, place, thing):
    """The deriving with the thing at the place in its stead."""
    return deriving[:place] + (thing,) + deriving[place + 1:]


class Plans(unittest.TestCase):
    def good(self, columns, *derivings):
        """The plan of these is one, and the last of them makes these columns."""
        plan = chain(*derivings)
        self.assertIsNone(look_at_plan(TABLES, plan))
        self.assertEqual(columns_of(TABLES, plan, plan[-1][0]), columns)

    def refused(self, number, plan):
        """Nothing is told of the plan, but the number of what is amiss first."""
        for ask in (look_at_plan, lambda tables, thing: columns_of(tables, thing, "visit")):
            with self.assertRaises(NoPlan) as caught:
                ask(TABLES, plan)
            self.assertIs(type(caught.exception.number), type(number))
            self.assertEqual(caught.exception.number, number)

    def bad(self, *derivings):
        """Of a plan of these the last is the first one amiss."""
        self.refused(len(derivings) - 1, chain(*derivings))

    def only_these(self, deriving, place, good, tried):
        """Of what is tried at the place, and of things of any kind, just the good ones make a deriving."""
        for thing in good:
            self.assertIsNone(look_at_plan(TABLES, chain(put(deriving, place, thing))), repr(thing))
        for thing in tried + of_any_kind() + [True, False]:
            if not any(type(thing) is type(one) and thing == one for one in good):
                with self.subTest(deriving=deriving, place=place, thing=repr(thing)):
                    self.bad(put(deriving, place, thing))


class Keep(Plans):
    def test_makes_the_columns_of_its_source(self):
        self.good(VISIT, ("keep", "visit", "who", "is", "ann"))
        self.good(VISIT, ("keep", "visit", "who", "is", None))
        self.good(VISIT, ("keep", "visit", "day", "is", None))
        self.good(VISIT, ("keep", "visit", "cost", "is", -3))
        self.good(VISIT, ("keep", "visit", "cost", "least", 4))
        self.good(STAY, ("keep", "stay", "night", "most", 0))

    def test_persons_cell(self):
        deriving = ("keep", "visit", "who", "is", "ann")
        self.only_these(deriving, 4, [None, "ann", "a", "abcdefgh"], NUMBERS_MORE + ["abcdefghi", "Bob", "b0"])

    def test_numbers_cell(self):
        good = [None, -9999, -1, 0, 1, 2, 5, 6, 9, 10, 9999]
        self.only_these(("keep", "visit", "cost", "is", 0), 4, good, NUMBERS_MORE + ["ann"])

    def test_worth_at_least_or_at_most(self):
        for word in ("least", "most"):
            deriving = ("keep", "visit", "cost", word, 0)
            self.only_these(deriving, 4, list(range(10)), NUMBERS_MORE + ["ann"])

    def test_least_and_most_are_of_a_number_column_alone(self):
        for word in ("least", "most"):
            for cell in (0, 5, "ann", None):
                self.bad(("keep", "visit", "who", word, cell))

    def test_source_column_and_word(self):
        deriving = ("keep", "visit", "cost", "is", 5)
        self.only_these(deriving, 1, ["visit"], ["stay", "mark", "a", "b", "cost", "keep"])
        self.only_these(deriving, 2, ["day", "cost"], ["who", "guest", "visit", "grade", "number"])
        words = ["many", "sum", "plus", "less", "than", "isnot", "keep", "window", "are"]
        self.only_these(deriving, 3, ["is", "least", "most"], words)


    def test_a_column_of_another_kind_is_never_likened(self):
        self.only_these(("keep", "mark", "grade", "is", 5), 2, ["grade"], ["who", "mark", 0, ("grade",)])


class More(Plans):
    def test_adds_a_number_column(self):
        self.good(VISIT + [("all", "number")], ("more", "visit", "all", "day", "plus", "cost"))
        self.good(STAY + [("x", "number")], ("more", "stay", "x", "night", "less", "night"))

    def test_name(self):
        deriving = ("more", "visit", "all", "day", "plus", "cost")
        good = ["all", "x", "visit", "more", "window", "plus", "abcdefgh"]
        self.only_these(deriving, 2, good, ["who", "day", "cost", "abcdefghi", "x y", "All", 0, 5])

    def test_source_columns_and_word(self):
        deriving = ("more", "visit", "all", "day", "plus", "cost")
        self.only_these(deriving, 1, ["visit"], ["stay", "mark", "a", "b", "day"])
        for place in (3, 5):
            self.only_these(deriving, place, ["day", "cost"], ["who", "all", "night", "visit", 0, 5])
        self.only_these(deriving, 4, ["plus", "less"], ["minus", "is", "least", "sum", "times", "more"])


class Join(Plans):
    def test_makes_both_columns_but_the_others_own(self):
        for word in ("join", "outer"):
            self.good(VISIT + [("night", "number")], (word, "visit", "stay", "who", "guest"))
            self.good(VISIT + [("guest", "person")], (word, "visit", "stay", "cost", "night"))
            self.good(STAY + [("who", "person"), ("day", "number")], (word, "stay", "visit", "night", "cost"))

    def test_perhaps_the_same_name(self):
        for word in ("join", "outer"):
            self.good(MARK, (word, "mark", "mark", "grade", "grade"))
            self.bad((word, "visit", "visit", "who", "who"))

    def test_alike_names_are_refused_but_the_joined_one(self):
        whos = ("group", "visit", ("who",), "many", None)
        twice = ("more", "stay", "day", "night", "plus", "night")
        for word in ("join", "outer"):
            self.good(VISIT + [("many", "number")], whos, (word, "visit", "a", "who", "who"))
            self.bad(twice, (word, "visit", "a", "who", "guest"))
            self.good(VISIT + [("guest", "person"), ("night", "number")], twice,
                      (word, "visit", "a", "day", "day"))

    def test_columns_of_one_kind(self):
        for word in ("join", "outer"):
            self.bad((word, "visit", "stay", "who", "night"))
            self.bad((word, "visit", "stay", "cost", "guest"))
            self.bad((word, "visit", "stay", "none", "none"))
            self.bad((word, "visit", "stay", None, None))

    def test_each_part(self):
        for word in ("join", "outer"):
            deriving = (word, "visit", "stay", "cost", "night")
            self.only_these(deriving, 1, ["visit"], ["stay", "mark", "a", "b"])
            self.only_these(deriving, 2, ["stay"], ["visit", "mark", "a", "b", "night"])
            self.only_these(deriving, 3, ["cost", "day"], ["who", "night", "guest", "grade", 0, 5])
            self.only_these(deriving, 4, ["night"], ["guest", "cost", "day", "grade", 0, 5])


class Group(Plans):
    def test_makes_the_lots_cells_and_the_words_column(self):
        self.good([("many", "number")], ("group", "visit", (), "many", None))
        self.good([("who", "person"), ("many", "number")], ("group", "visit", ("who",), "many", None))
        for word in ("sum", "least", "most"):
            self.good([("cost", "number"), ("who", "person"), (word, "number")],
                      ("group", "visit", ("cost", "who"), word, "day"))
        self.good([("day", "number"), ("sum", "number")], ("group", "visit", ("day",), "sum", "day"))

    def test_by(self):
        deriving = ("group", "visit", ("who",), "sum", "cost")
        good = [(), ("who",), ("cost",), ("who", "day"), ("day", "who")]
        tried = [["who"], ["who", "day"], "who", ("who", "who"), ("who", "night"), ("guest",), ("who", None),
                 ("who", "day", "cost"), (["who"],), (("who",),), (0,), ("",), {"who": 1}, {"who"}]
        self.only_these(deriving, 2, good, tried + [(thing,) for thing in of_any_kind()])

    def test_column_none_of_many_and_a_number_of_others(self):
        self.only_these(("group", "visit", (), "many", None), 4, [None], ["who", "day", "cost", 0, "night"])
        for word in ("sum", "least", "most"):
            deriving = ("group", "visit", (), word, "cost")
            self.only_these(deriving, 4, ["day", "cost"], ["who", "night", 0, 5, "sum"])

    def test_source_and_word(self):
        self.only_these(("group", "visit", (), "sum", "cost"), 1, ["visit"], ["stay", "mark", "a", "b"])
        words = ["many", "window", "first", "all", "plus", "is", "group"]
        self.only_these(("group", "visit", (), "sum", "cost"), 3, ["sum", "least", "most"], words)
        self.only_these(("group", "visit", (), "many", None), 3, ["many"], ["sum", "least", "most", "all"])

    def test_names_alike_by_the_word(self):
        sums = ("group", "visit", ("who",), "sum", "cost")
        self.bad(sums, ("group", "a", ("sum",), "sum", "sum"))
        self.bad(sums, ("group", "a", ("who", "sum"), "sum", "sum"))
        self.good([("who", "person"), ("sum", "number")], sums, ("group", "a", ("who",), "sum", "sum"))
        self.good([("sum", "number"), ("many", "number")], sums, ("group", "a", ("sum",), "many", None))
        counts = ("group", "visit", ("who",), "many", None)
        self.bad(counts, ("group", "a", ("many",), "many", None))
        self.good([("many", "number"), ("least", "number")], counts,
                  ("group", "a", ("many",), "least", "many"))


class Window(Plans):
    GOOD = ("window", "visit", ("who",), "day", 3, "cost")

    def test_adds_a_column(self):
        columns = VISIT + [("window", "number")]
        self.good(columns, self.GOOD)
        self.good(columns, ("window", "visit", (), "cost", 1, "cost"))
        self.good(columns, ("window", "visit", ("cost", "day"), "day", 5, "day"))

    def test_by(self):
        good = [(), ("who",), ("day",), ("who", "cost"), ("day", "who")]
        tried = [["who"], "who", ("who", "who"), ("who", "night"), ("who", "day", "cost"), (None,), (["who"],)]
        self.only_these(self.GOOD, 2, good, tried)

    def test_many_is_1_to_5(self):
        self.only_these(self.GOOD, 4, [1, 2, 3, 4, 5], NUMBERS_MORE + ["many", "3"])

    def test_source_order_and_column(self):
        self.only_these(self.GOOD, 1, ["visit"], ["stay", "mark", "a", "b"])
        for place in (3, 5):
            self.only_these(self.GOOD, place, ["day", "cost"], ["who", "night", "window", 0, 5])

    def test_names_alike_by_window(self):
        self.bad(self.GOOD, ("window", "a", (), "day", 1, "window"))
        self.bad(("more", "visit", "window", "day", "less", "cost"), ("window", "a", (), "day", 1, "cost"))
        self.good([("who", "person"), ("sum", "number"), ("window", "number")], self.GOOD,
                  ("group", "a", ("who",), "sum", "window"), ("window", "b", (), "sum", 1, "sum"))


class First(Plans):
    GOOD = ("first", "visit", ("who",), "day")

    def test_makes_the_columns_of_its_source(self):
        self.good(VISIT, self.GOOD)
        self.good(STAY, ("first", "stay", (), "night"))
        self.good(STAY, ("first", "stay", ("night", "guest"), "night"))

    def test_each_part(self):
        self.only_these(self.GOOD, 1, ["visit"], ["stay", "mark", "a", "b"])
        good = [(), ("who",), ("day",), ("who", "cost"), ("day", "who")]
        tried = [["who"], "who", ("who", "who"), ("who", "night"), ("who", "day", "cost"), (None,), (["who"],)]
        self.only_these(self.GOOD, 2, good, tried)
        self.only_these(self.GOOD, 3, ["day", "cost"], ["who", "night", "first", 0, 5])


class Both(Plans):
    ANNS = ("keep", "visit", "who", "is", "ann")
    DEAR = ("keep", "visit", "cost", "least", 5)

    def test_makes_the_columns_of_either(self):
        self.good(VISIT, self.ANNS, ("both", "visit", "a"))
        self.good(VISIT, self.ANNS, self.DEAR, ("both", "b", "a"))

    def test_each_part(self):
        for place in (1, 2):
            deriving = put(("both", "a", "a"), 3 - place, "visit")
            for thing in ["stay", "mark", "visit", "b", "c", "who"] + of_any_kind():
                self.bad(self.ANNS, put(deriving, place, thing))

    def test_unlike_names(self):
        self.bad(("both", "visit", "visit"))
        self.bad(self.ANNS, ("both", "a", "a"))

    def test_names_order_and_kinds_alike(self):
        kinds = (("one", (("x", "number", None), ("y", "person", None)), "row"),
                 ("two", (("x", "number", 3), ("y", "person", None)), "part"),
                 ("turned", (("y", "person", None), ("x", "number", None)), "row"),
                 ("called", (("x", "number", None), ("z", "person", None)), "row"),
                 ("kinds", (("x", "number", None), ("y", "number", None)), "row"),
                 ("fewer", (("x", "number", None),), "row"))
        self.assertEqual(columns_of(kinds, (("a", ("both", "one", "two")),), "a"),
                         [("x", "number"), ("y", "person")])
        for other in ("turned", "called", "kinds", "fewer"):
            for sources in (("one", other), (other, "one")):
                with self.assertRaises(NoPlan) as caught:
                    look_at_plan(kinds, (("a", ("both",) + sources),))
                self.assertEqual(caught.exception.number, 0)


GOOD_ONES = [
    ("keep", "visit", "cost", "least", 4), ("more", "visit", "all", "day", "plus", "cost"),
    ("join", "visit", "stay", "who", "guest"), ("outer", "visit", "stay", "who", "guest"),
    ("group", "visit", ("who",), "many", None), Window.GOOD, First.GOOD, ("both", "visit", "a"),
]


class Wholes(Plans):
    def test_a_plan_of_none(self):
        self.assertIsNone(look_at_plan(TABLES, ()))
        self.assertEqual(columns_of(TABLES, (), "visit"), VISIT)

    def test_what_is_no_tuple(self):
        for thing in of_any_kind() + ["plan", 0, 5, [Both.ANNS], [("a", Both.ANNS)], {"a": Both.ANNS}]:
            if thing != () and not isinstance(thing, tuple):
                with self.subTest(thing=repr(thing)):
                    self.refused(None, thing)

    def test_things_of_a_plan_of_other_kinds(self):
        good = ("a", Both.ANNS)
        for thing in of_any_kind() + ["ab", 0, 5, ["a", Both.ANNS], ("a",), ("a", Both.ANNS, None), Both.ANNS]:
            with self.subTest(thing=repr(thing)):
                self.refused(0, (thing,))
                self.refused(1, (good, thing, thing))

    def test_derivings_of_other_kinds(self):
        before = ("keep", "visit", "day", "is", 0)
        for deriving in GOOD_ONES:
            self.assertIsNone(look_at_plan(TABLES, chain(before, deriving)))
            self.bad(before, list(deriving))
            self.bad(before, deriving[:-1])
            self.bad(before, deriving[:1])
            self.bad(before, deriving + (None,))
            self.bad(before, deriving + deriving[-1:])
            self.bad(before, (deriving,))
            for word in of_any_kind() + ["keeps", "union", "Keep", "is", 0]:
                self.bad(before, put(deriving, 0, word))
            for word in ("keep", "more", "join", "group", "window", "first", "both"):
                if word != deriving[0] and (word, deriving[0]) != ("join", "outer"):
                    self.bad(before, put(deriving, 0, word))
        for thing in of_any_kind() + ["keep", ("keep",), 0]:
            self.bad(before, thing)

    def test_names(self):
        for name in ["abcdefgh", "z", "who", "keep"]:
            self.assertIsNone(look_at_plan(TABLES, ((name, Both.ANNS),)))
        for name in of_any_kind() + ["abcdefghi", "A", "a b", 0, 5, ("a",)]:
            with self.subTest(name=repr(name)):
                self.refused(0, ((name, Both.ANNS),))

    def test_names_like_a_tables(self):
        for name in ("visit", "stay", "mark"):
            self.refused(1, (("a", Both.ANNS), (name, Both.ANNS)))

    def test_of_two_alike_names_the_later_ones_number(self):
        same = ("a", Both.ANNS)
        self.refused(1, (same, same))
        self.refused(3, (same, ("b", Both.DEAR), ("c", Both.ANNS), ("b", Both.ANNS), same))

    def test_a_source_that_stands_later_or_is_itself(self):
        self.refused(0, (("a", ("keep", "b", "who", "is", None)), ("b", Both.ANNS)))
        self.refused(0, (("a", ("keep", "a", "who", "is", None)),))
        self.refused(1, chain(Both.ANNS, ("both", "a", "c"), Both.DEAR))
        self.refused(1, chain(Both.ANNS, ("join", "a", "b", "who", "who")))

    def test_twelve_and_thirteen(self):
        self.good(VISIT, *[Both.ANNS] * 12)
        self.refused(None, chain(*[Both.ANNS] * 13))
        self.refused(None, chain(*[None] * 13))
        self.refused(None, tuple([0] * 14))
        self.refused(11, chain(*[Both.ANNS] * 11, None))

    def test_three_away_and_four(self):
        def keep(source):
            return ("keep", source, "who", "is", None)

        self.good(VISIT, keep("visit"), keep("a"), keep("b"))
        self.bad(keep("visit"), keep("a"), keep("b"), keep("c"))
        self.good(VISIT, keep("visit"), keep("a"), keep("b"), keep("b"), keep("a"), keep("visit"))

    def test_the_farthest_way_counts(self):
        def keep(source):
            return ("keep", source, "who", "is", None)

        near = [keep("visit"), keep("a"), keep("b")]
        self.good(VISIT, *near, ("both", "b", "visit"))
        self.good(VISIT, *near, ("both", "visit", "b"))
        for sources in (("c", "visit"), ("visit", "c"), ("a", "c"), ("c", "b")):
            self.bad(*near, ("both",) + sources)
        marks = [("keep", "mark", "grade", "is", 0), ("keep", "a", "grade", "is", 0), ("keep", "b", "grade", "is", 0)]
        for word in ("join", "outer"):
            self.good(VISIT, *marks, (word, "visit", "b", "cost", "grade"))
            self.bad(*marks, (word, "visit", "c", "cost", "grade"))
            self.bad(*marks, (word, "c", "visit", "grade", "cost"))

    def test_each_deriving_is_one_step(self):
        steps = [("keep", "b", "who", "is", None), ("more", "b", "x", "day", "plus", "day"),
                 ("group", "b", ("who",), "sum", "cost"), ("window", "b", (), "day", 1, "cost"),
                 ("first", "b", (), "day")]
        for step in steps:
            near = [Both.ANNS, Both.DEAR, ("first", "a", (), "day")]
            self.assertIsNone(look_at_plan(TABLES, chain(*near, put(step, 1, "c"))))
            self.bad(*near, ("first", "c", (), "day"), put(step, 1, "d"))

    def test_of_two_amiss_the_first(self):
        for one in (None, ("keep",), ("keep", "visit", "who", "is", 5)):
            for other in (None, ("both", "visit", "visit")):
                self.refused(1, chain(Both.ANNS, one, Both.DEAR, other))
        self.refused(0, (("a", None), ("a", Both.ANNS)))
        self.refused(1, (("a", Both.ANNS), ("visit", Both.ANNS), None))


class Columns(Plans):
    PLAN = chain(Both.ANNS, ("group", "a", ("who",), "sum", "cost"))

    def test_of_tables_and_of_names_of_the_plan(self):
        told = [columns_of(TABLES, self.PLAN, name) for name in ("visit", "stay", "mark", "a", "b")]
        self.assertEqual(told, [VISIT, STAY, MARK, VISIT, [("who", "person"), ("sum", "number")]])
        for columns in told:
            self.assertIs(type(columns), list)
            self.assertEqual({(type(pair), len(pair)) for pair in columns}, {(tuple, 2)})

    def test_of_no_such_name(self):
        for name in of_any_kind() + ["c", "who", "visits", "abcdefghi", 0, ("visit",), ["visit"], 10 ** 60]:
            with self.subTest(name=repr(name)):
                with self.assertRaises(NoTable) as caught:
                    columns_of(TABLES, self.PLAN, name)
                self.assertIs(caught.exception.name, name)

    def test_no_plan_goes_ahead(self):
        for name in ("visit", "none", None, []):
            with self.assertRaises(NoPlan) as caught:
                columns_of(TABLES, (None,), name)
            self.assertEqual(caught.exception.number, 0)
            with self.assertRaises(NoPlan) as caught:
                columns_of(TABLES, [], name)
            self.assertIsNone(caught.exception.number)

    def test_told_lists_are_new(self):
        for name in ("visit", "a", "b"):
            one = columns_of(TABLES, self.PLAN, name)
            kept = list(one)
            one.clear()
            self.assertEqual(columns_of(TABLES, self.PLAN, name), kept)
            self.assertIsNot(columns_of(TABLES, self.PLAN, name), columns_of(TABLES, self.PLAN, name))

    def test_what_is_handed_in_stays(self):
        by = ["who"]
        for plan in (self.PLAN, [("a", Both.ANNS)], (["a", Both.ANNS],), (("a", ("first", "visit", by, "day")),)):
            kept = copy.deepcopy(plan)
            for ask in (lambda: look_at_plan(TABLES, plan), lambda: columns_of(TABLES, plan, ["visit"])):
                try:
                    ask()
                except (NoPlan, NoTable):
                    pass
            self.assertEqual(plan, kept)
        self.assertEqual(TABLES, visits_and_stays())
        self.assertEqual(by, ["who"])

    def test_asked_twice_it_is_told_alike(self):
        self.refused(1, chain(Both.ANNS, None))
        self.refused(1, chain(Both.ANNS, None))
        self.good([("who", "person"), ("sum", "number")], *[deriving for _, deriving in self.PLAN])

    def test_by_the_names_of_the_interface(self):
        self.assertIsNone(look_at_plan(plan=self.PLAN, tables=TABLES))
        self.assertEqual(columns_of(name="a", plan=self.PLAN, tables=TABLES), VISIT)


if __name__ == "__main__":
    unittest.main()
