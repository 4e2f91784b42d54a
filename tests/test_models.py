import copy
import itertools
import random
import unittest
from fractions import Fraction

from asnevertold.errors import NoModel
from asnevertold.models import is_model, learn, turns
from things import of_any_kind

COLUMNS = [("who", "person"), ("day", "number"), ("cost", "number"), ("by", "person"), ("sum", "number")]
ROWS = [("ann", 1, 5, None, -3), ("bob", None, 5, "ann", 12), ("ann", 1, None, "bob", None),
        (None, 2, 0, "bob", -3), ("ann", 2, 5, "bob", 12)]
SHARES = ("shares", "who")
PAIRS = ("pairs", ("who", "cost"), 1)
TREE = ("tree", "who", ("day", "cost"), 2)
LOTS = ("lots", ("day", "cost"), ((0, 0), (5, 5)), 2)
NUMBERS = [-10 ** 60, -1, 0, 1, 2, 3, 4, 5, 6, 7, 8, 9, 10, 10 ** 60]


def put(things, place, thing):
    """The tuple with the thing at the place."""
    return things[:place] + (thing,) + things[place + 1:]


def some_rows(seed, many=None):
    """Rows of the columns, with cells of any kind that may stand there."""
    chance = random.Random(seed)
    persons, cells = ["ann", "bob", "cid", None], [None, 0, 1, 2, 3, 9, -4, 12]
    if many is None:
        many = chance.randint(0, 9)
    return [tuple([chance.choice(persons if kind == "person" else cells) for _, kind in COLUMNS]) for _ in range(many)]


class IsModel(unittest.TestCase):
    def only_these(self, model, place, good, tried):
        """Of what is tried at the place, and of things of any kind, just the good ones make a model."""
        for thing in good:
            self.assertIs(is_model(COLUMNS, put(model, place, thing)), True, repr(thing))
        for thing in tried + of_any_kind():
            if not any(type(thing) is type(one) and thing == one for one in good):
                with self.subTest(model=model, place=place, thing=repr(thing)):
                    self.assertIs(is_model(COLUMNS, put(model, place, thing)), False)
                    with self.assertRaises(NoModel):
                        learn(COLUMNS, ROWS, put(model, place, thing))

    def test_each_sort_as_told(self):
        for model in (SHARES, PAIRS, TREE, LOTS):
            self.assertIs(is_model(COLUMNS, model), True)
            self.assertIs(is_model(tuple(COLUMNS), model), True)
            self.assertIs(is_model([("x", "number")], model), False)

    def test_shares(self):
        names = [name for name, _ in COLUMNS]
        self.only_these(SHARES, 1, names, ["none", "visit", "shares", 0, ("who",), ["who"], "Who"])

    def test_columns_of_pairs(self):
        good = [("who", "cost"), ("cost", "who"), ("who", "day", "by"), ("sum", "who", "day", "by")]
        tried = [("who",), (), ("who", "who"), ("who", "none"), ("who", "day", "cost", "by", "sum"), "who", 0,
                 ["who", "cost"], ("who", "cost", "who"), ("who", None), ("who", ["cost"]), {"who": 1, "cost": 2},
                 ("who", 0), ("who", True)]
        self.only_these(PAIRS, 1, good, tried + [("who", thing) for thing in of_any_kind()])

    def test_fewest_is_from_1_on(self):
        self.only_these(PAIRS, 2, [number for number in NUMBERS if number >= 1], NUMBERS + ["1"])

    def test_column_of_a_tree(self):
        names = [name for name, _ in COLUMNS]
        self.only_these(TREE, 1, names, ["none", "tree", 0, ("who",), ["who"]])

    def test_number_columns_of_a_tree(self):
        good = [("day",), ("cost", "day"), ("day", "sum", "cost")]
        tried = [(), ("who",), ("day", "who"), ("day", "day"), ("day", "none"), "day", ["day"], ("day", None),
                 ("day", "cost", "sum", "day"), (["day"],), {"day": 1}]
        self.only_these(TREE, 2, good, tried + [("day", thing) for thing in of_any_kind()])
        wide = [(name, "number") for name in "abcd"]
        self.assertIs(is_model(wide, ("tree", "a", ("b", "c", "d"), 1)), True)
        self.assertIs(is_model(wide, ("tree", "a", ("a", "b", "c", "d"), 1)), False)

    def test_a_trees_own_column_among_its_columns(self):
        self.assertIs(is_model(COLUMNS, ("tree", "day", ("day",), 1)), True)
        self.assertIs(is_model(COLUMNS, ("tree", "day", ("cost", "day"), 1)), True)

    def test_deep_is_0_to_3(self):
        self.only_these(TREE, 3, [0, 1, 2, 3], NUMBERS + ["2"])

    def test_columns_of_lots(self):
        tried = [(), ("who", "day"), ("day", "day"), ("day", "none"), "day", ["day", "cost"], ("day",),
                 ("day", "cost", "sum")]
        self.only_these(LOTS, 1, [("day", "cost"), ("cost", "day"), ("sum", "day")], tried)
        self.only_these(("lots", ("day",), ((0,), (5,)), 1), 1, [("day",), ("cost",), ("sum",)],
                        [("who",), ("day", "cost"), "day", ["day"]])
        self.assertIs(is_model(COLUMNS, ("lots", ("day", "cost", "sum"), ((0, 0, 0),), 1)), False)
        self.assertIs(is_model(COLUMNS, ("lots", (), ((),), 1)), False)

    def test_begins(self):
        good = [((0, 0),), ((0, 0), (0, 1)), ((9, 9), (1, 1), (2, 2), (3, 3)), ((5, 0), (0, 5), (5, 5))]
        tried = [(), ((0, 0), (0, 0)), ((0,), (1,)), ((0, 0, 0),), ((0, 10),), ((0, -1),), ((0, None),), ((True, 0),),
                 ((False, 1),), [(0, 0)], ([0, 0],), (0, 0), 0, ((0, 0), (1, 1), (2, 2), (3, 3), (4, 4)), ((0, "1"),),
                 ((0, 0), None), ((0, 0), ()), ((0, 1.0),), ((),)]
        self.only_these(LOTS, 2, good, tried + [((0, thing),) for thing in of_any_kind()])
        self.only_these(("lots", ("day",), ((0,),), 1), 2, [((0,),), ((9,), (0,))],
                        [((0, 0),), (0,), ((0,), (0,)), ((),), ((10,),)])

    def test_moves_are_0_to_6(self):
        self.only_these(LOTS, 3, [0, 1, 2, 3, 4, 5, 6], NUMBERS + ["2"])

    def test_word_and_length(self):
        for model in (SHARES, PAIRS, TREE, LOTS):
            for other in (model[:-1], model[:1], model + (None,), model + model[-1:], list(model), (model,), ()):
                self.assertIs(is_model(COLUMNS, other), False)
                self.assertRaises(NoModel, learn, COLUMNS, ROWS, other)
            for word in of_any_kind() + ["share", "Shares", "trees", "keep", 0]:
                self.assertIs(is_model(COLUMNS, put(model, 0, word)), False)
            for word in ("shares", "pairs", "tree", "lots"):
                self.assertIs(is_model(COLUMNS, put(model, 0, word)), word == model[0])

    def test_of_anything(self):
        for thing in of_any_kind() + [0, "shares", {"shares": "who"}, ["shares", "who"]]:
            with self.subTest(thing=repr(thing)):
                self.assertIs(is_model(COLUMNS, thing), False)
                self.assertRaises(NoModel, learn, COLUMNS, ROWS, thing)

    def test_by_the_names_of_the_interface(self):
        self.assertIs(is_model(thing=SHARES, columns=COLUMNS), True)
        self.assertEqual(learn(model=SHARES, rows=[], columns=COLUMNS), [])
        self.assertEqual(turns(other=[], one=[], model=SHARES), [])


class Shares(unittest.TestCase):
    def test_cells_but_none_sorted(self):
        self.assertEqual(learn(COLUMNS, ROWS, SHARES), [("ann", 3, 4), ("bob", 1, 4)])
        self.assertEqual(learn(COLUMNS, ROWS, ("shares", "cost")), [(0, 1, 4), (5, 3, 4)])
        self.assertEqual(learn(COLUMNS, ROWS, ("shares", "sum")), [(-3, 2, 4), (12, 2, 4)])

    def test_of_none(self):
        self.assertEqual(learn(COLUMNS, [], SHARES), [])
        self.assertEqual(learn(COLUMNS, [(None,) * 5] * 3, SHARES), [])

    def test_turns(self):
        one = [("ann", 3, 4), ("bob", 1, 4)]
        self.assertEqual(turns(SHARES, one, list(one)), [])
        self.assertEqual(turns(SHARES, one, [("ann", 3, 5), ("bob", 2, 5)]), ["ann", "bob"])
        self.assertEqual(turns(SHARES, one, [("ann", 2, 4), ("bob", 1, 4), ("cid", 1, 4)]), ["ann", "cid"])
        self.assertEqual(turns(SHARES, one, [("bob", 1, 4)]), ["ann"])
        self.assertEqual(turns(SHARES, [], one), ["ann", "bob"])
        self.assertEqual(turns(("shares", "sum"), [(12, 1, 1)], [(-3, 1, 2), (2, 1, 2)]), [-3, 2, 12])


class Pairs(unittest.TestCase):
    def test_both_cells_none_none(self):
        self.assertEqual(learn(COLUMNS, ROWS, PAIRS), [("who", "ann", "cost", 5, 2), ("who", "bob", "cost", 5, 1)])
        self.assertEqual(learn(COLUMNS, ROWS, ("pairs", ("cost", "who"), 1)),
                         [("cost", 5, "who", "ann", 2), ("cost", 5, "who", "bob", 1)])

    def test_at_least_fewest(self):
        self.assertEqual(learn(COLUMNS, ROWS, put(PAIRS, 2, 2)), [("who", "ann", "cost", 5, 2)])
        self.assertEqual(learn(COLUMNS, ROWS, put(PAIRS, 2, 3)), [])

    def test_of_four_columns_by_their_places(self):
        model = ("pairs", ("sum", "who", "day", "by"), 1)
        rows = [("bob", 2, 0, "ann", 12), ("ann", 2, 0, None, -3), ("bob", 1, 0, "ann", None)]
        self.assertEqual(learn(COLUMNS, rows, model), [
            ("sum", -3, "who", "ann", 1), ("sum", 12, "who", "bob", 1),
            ("sum", -3, "day", 2, 1), ("sum", 12, "day", 2, 1),
            ("sum", 12, "by", "ann", 1),
            ("who", "ann", "day", 2, 1), ("who", "bob", "day", 1, 1), ("who", "bob", "day", 2, 1),
            ("who", "bob", "by", "ann", 2),
            ("day", 1, "by", "ann", 1), ("day", 2, "by", "ann", 1),
        ])

    def test_of_none(self):
        self.assertEqual(learn(COLUMNS, [], PAIRS), [])
        self.assertEqual(learn(COLUMNS, [("ann", 1, None, "bob", 2), (None, 1, 5, "bob", 2)], PAIRS), [])

    def test_turns_in_pythons_order(self):
        model = ("pairs", ("who", "cost", "by"), 1)
        one = [("who", "ann", "cost", 5, 2), ("who", "bob", "cost", 5, 1), ("who", "bob", "by", "ann", 1),
               ("cost", 5, "by", "ann", 1)]
        other = [("who", "ann", "cost", 5, 3), ("who", "bob", "cost", 5, 1), ("who", "bob", "by", "cid", 1),
                 ("cost", 2, "by", "cid", 1)]
        self.assertEqual(turns(model, one, one[:]), [])
        self.assertEqual(turns(model, one, other), [
            ("cost", 2, "by", "cid"), ("cost", 5, "by", "ann"), ("who", "ann", "cost", 5),
            ("who", "bob", "by", "ann"), ("who", "bob", "by", "cid"),
        ])

    def test_turns_are_sorted_by_names_where_learnt_is_by_places(self):
        model = ("pairs", ("who", "day", "cost"), 1)
        one = learn(COLUMNS, [("ann", 1, 2, None, 0)], model)
        self.assertEqual([(told[0], told[2]) for told in one], [("who", "day"), ("who", "cost"), ("day", "cost")])
        found = [("day", 1, "cost", 2), ("who", "ann", "cost", 2), ("who", "ann", "day", 1)]
        self.assertEqual((turns(model, one, []), turns(model, [], one)), (found, found))


def plain(rows):
    """Rows of two number columns and a person, of (person, day, cost)."""
    return [(who, day, cost, None, None) for who, day, cost in rows]


def cost_of(cells):
    """The cost of a lot of cells."""
    many = len(cells)
    return many - Fraction(sum(cells.count(cell) ** 2 for cell in set(cells)), many)


def node(rows, place, splits, deep):
    """The node of rows by shares of Python's own."""
    cells = [row[place] for row in rows]
    counts = tuple([(cell, cells.count(cell)) for cell in sorted(set(cells))])
    tried = []
    for at, (name, there) in enumerate(splits if deep and rows else []):
        for worth in {row[there] for row in rows} - {None}:
            parts = [[row for row in rows if (row[there] is not None and row[there] <= worth) is truth]
                     for truth in (True, False)]
            if all(parts):
                tried.append((sum(cost_of([row[place] for row in part]) for part in parts), at, worth, name, parts))
    if not tried or min(tried)[0] >= cost_of(cells):
        return ("leaf", counts)
    _, _, worth, name, parts = min(tried)
    return ("split", counts, name, worth, *[node(part, place, splits, deep - 1) for part in parts])


class Tree(unittest.TestCase):
    def learnt(self, rows, deep=2, columns=("day", "cost"), column="who"):
        return learn(COLUMNS, plain(rows), ("tree", column, columns, deep))

    def test_of_no_rows(self):
        for deep in range(4):
            self.assertEqual(self.learnt([], deep), ("leaf", ()))
            self.assertEqual(self.learnt([(None, 1, 2), (None, 5, None)], deep), ("leaf", ()))

    def test_a_split_at_a_number_that_stands_there(self):
        rows = [("ann", 1, 0), ("ann", 3, 0), ("bob", 6, 0), ("bob", 9, 0)]
        self.assertEqual(self.learnt(rows), ("split", (("ann", 2), ("bob", 2)), "day", 3,
                                             ("leaf", (("ann", 2),)), ("leaf", (("bob", 2),))))

    def test_no_splits_deep_nought(self):
        rows = [("bob", 1, 0), ("ann", 3, 0), (None, 2, 0), ("bob", 2, 2)]
        self.assertEqual(self.learnt(rows, 0), ("leaf", (("ann", 1), ("bob", 2))))

    def test_no_split_where_none_costs_less(self):
        # Each part has as many of either as the whole: the cost is the same.
        rows = [("ann", 1, 0), ("bob", 1, 0), ("ann", 2, 0), ("bob", 2, 0)]
        self.assertEqual(self.learnt(rows), ("leaf", (("ann", 2), ("bob", 2))))
        self.assertEqual(self.learnt([("ann", 1, 0), ("ann", 2, 0)]), ("leaf", (("ann", 2),)))
        self.assertEqual(self.learnt([("ann", 1, 0), ("bob", 1, 0)]), ("leaf", (("ann", 1), ("bob", 1))))

    def test_none_goes_to_the_other(self):
        rows = [("ann", 4, 0), ("bob", None, 0), ("bob", None, 0)]
        self.assertEqual(self.learnt(rows), ("split", (("ann", 1), ("bob", 2)), "day", 4,
                                             ("leaf", (("ann", 1),)), ("leaf", (("bob", 2),))))
        self.assertEqual(self.learnt([("ann", None, None), ("bob", None, None)]),
                         ("leaf", (("ann", 1), ("bob", 1))))

    def test_of_equal_costs_the_first_of_columns(self):
        rows = [("ann", 5, 1), ("bob", 7, 2)]
        self.assertEqual(self.learnt(rows)[2:4], ("day", 5))
        self.assertEqual(self.learnt(rows, columns=("cost", "day"))[2:4], ("cost", 1))

    def test_of_equal_costs_the_least_worth(self):
        rows = [("ann", 1, 0), ("bob", 2, 0), ("ann", 3, 0)]
        # Split at 1 or at 2 either part of two costs 1.
        self.assertEqual(self.learnt(rows, 1, ("day",)), (
            "split", (("ann", 2), ("bob", 1)), "day", 1, ("leaf", (("ann", 1),)), ("leaf", (("ann", 1), ("bob", 1)))))

    def test_the_least_cost_of_all(self):
        rows = [("ann", 1, 1), ("ann", 2, 9), ("ann", 3, 2), ("bob", 4, 8), ("bob", 1, 7)]
        # By cost at 2: ann ann, ann bob bob: 4/3. By day at 3: ann ann ann bob, bob: 3/2.
        self.assertEqual(self.learnt(rows, 1)[2:4], ("cost", 2))

    def test_two_and_three_deep(self):
        rows = [("ann", 1, 1), ("bob", 1, 5), ("cid", 5, 1), ("dan", 5, 5)] * 2
        told = self.learnt(rows, 1)
        self.assertEqual(told, ("split", (("ann", 2), ("bob", 2), ("cid", 2), ("dan", 2)), "day", 1,
                                ("leaf", (("ann", 2), ("bob", 2))), ("leaf", (("cid", 2), ("dan", 2)))))
        told = self.learnt(rows, 2)
        self.assertEqual(told[4], ("split", (("ann", 2), ("bob", 2)), "cost", 1, ("leaf", (("ann", 2),)),
                                   ("leaf", (("bob", 2),))))
        self.assertEqual(self.learnt(rows, 3), told)
        three = [("abcd"[at], at, 0) for at in range(4)]
        for deep, many in ((0, 0), (1, 1), (2, 2), (3, 3)):
            self.assertEqual(repr(self.learnt(three, deep)).count("split"), many)

    def test_its_own_column_among_its_columns(self):
        rows = [("ann", 2, 0), ("ann", 5, 0), ("ann", 5, 0), ("ann", None, 0)]
        self.assertEqual(self.learnt(rows, 1, ("cost", "day"), "day"), (
            "split", ((2, 1), (5, 2)), "day", 2, ("leaf", ((2, 1),)), ("leaf", ((5, 2),))))

    def test_cells_below_nought_and_above_nine(self):
        rows = [("ann", 0, 0, None, -400), ("bob", 0, 0, None, -3), ("bob", 0, 0, None, 0), ("ann", 0, 0, None, 77)]
        told = learn(COLUMNS, rows, ("tree", "who", ("sum",), 2))
        self.assertEqual(told, ("split", (("ann", 2), ("bob", 2)), "sum", -400, ("leaf", (("ann", 1),)), (
            "split", (("ann", 1), ("bob", 2)), "sum", 0, ("leaf", (("bob", 2),)), ("leaf", (("ann", 1),)))))
        told = learn(COLUMNS, [("ann", 0, 0, None, number) for number in (-5, 30, 30)], ("tree", "sum", ("sum",), 3))
        self.assertEqual(told, ("split", ((-5, 1), (30, 2)), "sum", -5, ("leaf", ((-5, 1),)), ("leaf", ((30, 2),))))

    def test_by_shares_of_pythons_own(self):
        splits = 0
        for seed in range(150):
            rows = some_rows(seed, seed % 13)
            for column, names, deep in (("who", ("day", "cost", "sum"), 3), ("day", ("sum", "cost"), 2),
                                        ("sum", ("sum", "day"), 3), ("by", ("cost",), 1)):
                places = dict([(name, at) for at, (name, _) in enumerate(COLUMNS)])
                place = places[column]
                wanted = node([row for row in rows if row[place] is not None], place,
                              [(name, places[name]) for name in names], deep)
                self.assertEqual(learn(COLUMNS, rows, ("tree", column, names, deep)), wanted)
                splits += repr(wanted).count("split")
        self.assertGreater(splits, 300)

    def test_turns(self):
        leaf = ("leaf", (("ann", 2),))
        bobs = ("leaf", (("bob", 2),))
        counts = (("ann", 2), ("bob", 2))
        split = ("split", counts, "day", 3, leaf, bobs)
        self.assertEqual(turns(TREE, split, copy.deepcopy(split)), [])
        self.assertEqual(turns(TREE, leaf, leaf), [])
        self.assertEqual(turns(TREE, leaf, bobs), [""])
        self.assertEqual(turns(TREE, ("leaf", counts), split), ["", "o", "x"])
        self.assertEqual(turns(TREE, split, ("leaf", counts)), ["", "o", "x"])
        self.assertEqual(turns(TREE, split, put(split, 2, "cost")), [""])
        self.assertEqual(turns(TREE, split, put(split, 3, 4)), [""])
        self.assertEqual(turns(TREE, split, put(split, 1, (("ann", 2), ("bob", 3)))), [""])
        self.assertEqual(turns(TREE, split, put(split, 5, ("leaf", (("bob", 3),)))), ["x"])
        deep = ("split", counts, "cost", 1, split, leaf)
        other = ("split", counts, "cost", 1, leaf, split)
        self.assertEqual(turns(TREE, deep, other), ["o", "oo", "ox", "x", "xo", "xx"])
        self.assertEqual(turns(TREE, ("leaf", ()), deep), ["", "o", "oo", "ox", "x"])


class Lots(unittest.TestCase):
    def learnt(self, days, begins, moves):
        """By one column."""
        rows = [("ann", day, None, None, None) for day in days]
        return learn(COLUMNS, rows, ("lots", ("day",), tuple([(begin,) for begin in begins]), moves))

    def test_begins_alone(self):
        self.assertEqual(self.learnt([1, 2], [3, 0], 0), [((((3, 1),), ((0, 1),)), ())])

    def test_moves_by_hand(self):
        told = self.learnt([0, 1, 2, 9], [0, 1], 3)
        self.assertEqual(told, [
            ((((0, 1),), ((1, 1),)), ()),
            ((((0, 1),), ((4, 1),)), (1, 3)),
            ((((1, 1),), ((9, 1),)), (3, 1)),
            ((((1, 1),), ((9, 1),)), (3, 1)),
        ])
        self.assertEqual(len(self.learnt([0, 1, 2, 9], [0, 1], 6)), 7)
        self.assertEqual(self.learnt([0, 1, 2, 9], [0, 1], 6)[:4], told)

    def test_shares_in_lowest_terms(self):
        self.assertEqual(self.learnt([1, 2], [0], 1)[1], ((((3, 2),),), (2,)))
        self.assertEqual(self.learnt([1, 1, 2, 2], [0], 1)[1], ((((3, 2),),), (4,)))
        self.assertEqual(self.learnt([0, 0, 0], [5], 1)[1], ((((0, 1),),), (3,)))
        self.assertEqual(self.learnt([4, 4], [5], 1)[1], ((((4, 1),),), (2,)))
        self.assertEqual(self.learnt([-3, 0, 0, -3], [0], 1)[1], ((((-3, 2),),), (4,)))
        self.assertEqual(self.learnt([-1, 1], [0], 1)[1], ((((0, 1),),), (2,)))

    def test_of_several_nearest_the_first(self):
        self.assertEqual(self.learnt([3], [2, 4], 1)[1], ((((3, 1),), ((4, 1),)), (1, 0)))
        self.assertEqual(self.learnt([3], [4, 2], 1)[1], ((((3, 1),), ((2, 1),)), (1, 0)))
        # Between 1/2 and 5/2 lies 3/2; between 0 and 3, too.
        told = learn(COLUMNS, [("ann", day, cost, None, None) for day, cost in ((0, 0), (1, 0), (0, 3), (3, 3))],
                     ("lots", ("day", "cost"), ((0, 0), (3, 3)), 1))
        self.assertEqual(told[1], ((((1, 3), (1, 1)), ((3, 1), (3, 1))), (3, 1)))

    def test_empty_centres_stay(self):
        told = self.learnt([1, 2, 1], [9, 1, 8], 2)
        self.assertEqual(told[1], ((((9, 1),), ((4, 3),), ((8, 1),)), (0, 3, 0)))
        self.assertEqual(told[2], told[1])

    def test_no_rows(self):
        begins = (((0, 1),), ((5, 1),))
        wanted = [(begins, ()), (begins, (0, 0)), (begins, (0, 0))]
        self.assertEqual(self.learnt([], [0, 5], 2), wanted)
        self.assertEqual(self.learnt([None, None], [0, 5], 2), wanted)

    def test_rows_with_a_cell_none_are_passed_over(self):
        rows = [("ann", 1, None, None, None), ("ann", None, 1, None, None), (None, 2, 2, None, None)]
        told = learn(COLUMNS, rows, ("lots", ("day", "cost"), ((0, 0),), 1))
        self.assertEqual(told, [((((0, 1), (0, 1)),), ()), ((((2, 1), (2, 1)),), (1,))])

    def test_columns_in_their_own_order(self):
        told = learn(COLUMNS, [("ann", 1, 7, None, None)], ("lots", ("cost", "day"), ((0, 0),), 1))
        self.assertEqual(told[1], ((((7, 1), (1, 1)),), (1,)))

    def test_by_shares_of_pythons_own(self):
        for seed in range(120):
            rows = some_rows(seed, seed % 11)
            for names, begins in ((("day", "cost"), ((0, 0), (5, 5), (0, 9))), (("sum",), ((3,), (9,), (0,), (1,)))):
                places = [[name for name, _ in COLUMNS].index(name) for name in names]
                points = [tuple([row[place] for place in places]) for row in rows]
                points = [point for point in points if None not in point]
                centres = [tuple(map(Fraction, begin)) for begin in begins]
                told = learn(COLUMNS, rows, ("lots", names, begins, 6))
                self.assertEqual(told[0][1], ())
                for at, (shown, manys) in enumerate(told):
                    if at:
                        lots = [[] for _ in centres]
                        for point in points:
                            away = [sum((one - two) ** 2 for one, two in zip(point, centre)) for centre in centres]
                            lots[away.index(min(away))].append(point)
                        centres = [tuple([Fraction(sum(cells), len(lot)) for cells in zip(*lot)]) or centre
                                   for lot, centre in zip(lots, centres)]
                        self.assertEqual(manys, tuple(map(len, lots)))
                    self.assertEqual(shown, tuple([tuple([(cell.numerator, cell.denominator) for cell in centre])
                                                   for centre in centres]))

    def test_turns(self):
        one = self.learnt([0, 1, 2, 9], [0, 1], 3)
        self.assertEqual(turns(LOTS, one, copy.deepcopy(one)), [])
        for number in range(4):
            other = list(one)
            other[number] = (one[number][0], (7, 7))
            self.assertEqual(turns(LOTS, one, other), [number])
            other[3] = None
            self.assertEqual(turns(LOTS, one, other), [number])
        other = self.learnt([0, 1, 2, 8], [0, 1], 3)
        self.assertEqual(turns(LOTS, one, other), [1])
        # The first move's centre is the same, its count is not.
        self.assertEqual(turns(LOTS, self.learnt([2], [2], 1), self.learnt([2, 2], [2], 1)), [1])


class Every(unittest.TestCase):
    MODELS = (SHARES, PAIRS, TREE, LOTS)

    def test_the_order_of_rows_is_nothing(self):
        for seed in range(20):
            rows = some_rows(seed)
            for model in self.MODELS:
                self.assertEqual(learn(COLUMNS, rows, model), learn(COLUMNS, rows[::-1], model))
                self.assertEqual(learn(COLUMNS, rows, model), learn(COLUMNS, sorted(rows, key=repr), model))

    def test_nothing_turns_just_where_both_are_the_same(self):
        seen = 0
        for one, other in itertools.combinations([some_rows(seed, 4) for seed in range(12)], 2):
            for model in self.MODELS:
                learnt = [learn(COLUMNS, rows, model) for rows in (one, other)]
                told = turns(model, *learnt)
                self.assertEqual(told == [], learnt[0] == learnt[1])
                self.assertEqual(turns(model, *learnt[::-1]), told)
                self.assertEqual(told, sorted(told))
                seen += len(told)
        self.assertGreater(seen, 500)

    def test_told_is_new_and_what_is_handed_in_stays(self):
        rows, columns = [list(ROWS), list(COLUMNS)]
        for model in self.MODELS:
            told = learn(columns, rows, model)
            kept = copy.deepcopy(told)
            self.assertIs(type(told), tuple if model is TREE else list)
            turns(model, told, learn(columns, [], model)).clear()
            self.assertEqual(told, kept)
            if model is not TREE:
                told.clear()
            self.assertEqual(learn(columns, rows, model), kept)
        self.assertEqual((rows, columns), (ROWS, COLUMNS))


if __name__ == "__main__":
    unittest.main()
