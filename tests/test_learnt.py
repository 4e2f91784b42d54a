import copy
import itertools
import random
import unittest

from asnevertold.errors import NoModel, NoRows
from asnevertold.learnt import Learnt
from asnevertold.models import learn, turns
from test_models import COLUMNS, LOTS, PAIRS, ROWS, SHARES, TREE, some_rows
from things import of_any_kind

MODELS = (SHARES, PAIRS, TREE, LOTS)


def made(rows, model=SHARES):
    """A Learnt to which these rows came."""
    told = Learnt(COLUMNS, model)
    told.come(rows)
    return told


class Comes(unittest.TestCase):
    def test_at_first(self):
        for model in MODELS:
            told = Learnt(COLUMNS, model)
            self.assertEqual(len(told), 0)
            self.assertEqual(told.told(), learn(COLUMNS, [], model))

    def test_by_hand(self):
        told = Learnt(COLUMNS, SHARES)
        self.assertEqual(told.come(ROWS), ["ann", "bob"])
        self.assertEqual((told.told(), len(told)), ([("ann", 3, 4), ("bob", 1, 4)], 5))
        self.assertEqual(told.come([(None, 0, 0, None, 0)]), [])
        self.assertEqual(told.come([("cid", None, None, None, None)]), ["ann", "bob", "cid"])
        self.assertEqual(told.go([("cid", None, None, None, None)]), ["ann", "bob", "cid"])
        self.assertEqual((told.told(), len(told)), ([("ann", 3, 4), ("bob", 1, 4)], 6))
        self.assertEqual(told.go(ROWS[:2]), ["ann", "bob"])
        self.assertEqual(told.told(), [("ann", 2, 2)])

    def test_none_that_come_or_go(self):
        for model in MODELS:
            told = made(ROWS, model)
            self.assertEqual((told.come([]), told.go([]), len(told)), ([], [], 5))

    def test_is_what_is_learnt_anew(self):
        for seed, model in itertools.product(range(25), MODELS):
            chance = random.Random(seed)
            told, rows = Learnt(COLUMNS, model), []
            for step in range(8):
                before = told.told()
                if chance.random() < 0.5:
                    more = some_rows(100 * seed + step, chance.randint(0, 3))
                    turned = told.come(more)
                    rows = rows + more
                else:
                    less = chance.sample(rows, chance.randint(0, min(3, len(rows))))
                    turned = told.go(less)
                    for row in less:
                        rows.remove(row)
                self.assertEqual((told.told(), len(told)), (learn(COLUMNS, rows, model), len(rows)))
                self.assertEqual(turned, turns(model, before, told.told()))

    def test_the_same_rows_in_other_orders(self):
        for model in MODELS:
            wanted = learn(COLUMNS, ROWS, model)
            for order in itertools.permutations(ROWS):
                told = Learnt(COLUMNS, model)
                told.come(list(order[:2]))
                told.come(list(order[2:]))
                self.assertEqual(told.told(), wanted)
                told.come([order[3], order[0]])
                told.go([order[0]])
                told.go([order[3]])
                self.assertEqual((told.told(), len(told)), (wanted, 5))

    def test_rows_as_often_as_they_came(self):
        told = made([ROWS[0], ROWS[1], ROWS[0]])
        told.go([ROWS[0], ROWS[0]])
        self.assertEqual((told.told(), len(told)), ([("bob", 1, 1)], 1))

    def test_numbers_below_nought_and_above_nine(self):
        rows = [("ann", -1, 10, "bob", 10 ** 50), (None, None, None, None, None)]
        told = made(rows, ("shares", "sum"))
        self.assertEqual(told.told(), [(10 ** 50, 1, 1)])
        self.assertEqual(told.go(rows), [10 ** 50])


class Refusals(unittest.TestCase):
    def refused(self, ask, rows, model=SHARES):
        told = made(ROWS, model)
        before = told.told()
        with self.assertRaises(NoRows):
            getattr(told, ask)(rows)
        self.assertEqual((told.told(), len(told)), (before, 5))
        told.go(ROWS)
        self.assertEqual(len(told), 0)

    def test_no_model(self):
        for thing in of_any_kind() + [("shares", "none"), ["shares", "who"], ("shares",), put_deep(True), put_deep(4)]:
            with self.subTest(thing=repr(thing)):
                self.assertRaises(NoModel, Learnt, COLUMNS, thing)

    def test_of_anything_but_a_list(self):
        for thing in of_any_kind() + [tuple(ROWS), ROWS[0], 0, "rows", {ROWS[0]: 1}, {ROWS[0]}]:
            if not (isinstance(thing, list) and not thing):
                for ask in ("come", "go"):
                    with self.subTest(ask=ask, thing=repr(thing)):
                        self.refused(ask, thing)

    def test_rows_of_other_kinds(self):
        row = ROWS[0]
        bad = of_any_kind() + [list(row), row[:-1], row + (None,), (), (row,), row[::-1], "annie", 0]
        bad += [row[:1] + (truth,) + row[2:] for truth in (True, False, 1.0, "1", "ann", (1,))]
        bad += [(thing,) + row[1:] for thing in ("Ann", "", "abcdefghi", 1, 0, ("ann",), True)]
        bad += [row[:4] + (thing,) for thing in of_any_kind()[1:]]
        for thing in bad:
            for ask in ("come", "go"):
                with self.subTest(ask=ask, thing=repr(thing)):
                    self.refused(ask, [thing])
                    self.refused(ask, [ROWS[1], thing, ROWS[2]])

    def test_a_truth_is_no_whole_number_that_is_there(self):
        self.refused("go", [("ann", True, 5, None, -3)])
        self.refused("go", [("ann", True, None, "bob", None)])

    def test_rows_gone_that_are_not_there_or_not_as_often(self):
        for model in MODELS:
            self.refused("go", [("ann", 1, 5, None, -2)], model)
            self.refused("go", [(None, None, None, None, None)], model)
            self.refused("go", [ROWS[0], ROWS[0]], model)
            self.refused("go", ROWS + ROWS[4:], model)
            self.refused("go", [ROWS[1], ("eve", 1, 1, None, 1)], model)
        self.assertRaises(NoRows, Learnt(COLUMNS, SHARES).go, ROWS[:1])


def put_deep(deep):
    """A tree with this as deep."""
    return TREE[:3] + (deep,)


class Own(unittest.TestCase):
    def test_twin_goes_on_by_itself(self):
        for model in MODELS:
            told = made(ROWS[:3], model)
            twin = told.twin()
            self.assertEqual((twin.told(), len(twin)), (told.told(), 3))
            twin.come(ROWS[3:])
            told.go(ROWS[:1])
            self.assertEqual((len(told), len(twin)), (2, 5))
            self.assertEqual(told.told(), learn(COLUMNS, ROWS[1:3], model))
            self.assertEqual(twin.told(), learn(COLUMNS, ROWS, model))

    def test_told_is_new_and_what_is_handed_in_is_not_kept(self):
        for model in MODELS:
            columns, rows = list(COLUMNS), list(ROWS)
            told = Learnt(columns, model)
            told.come(rows).clear()
            columns.clear()
            rows.clear()
            wanted = learn(COLUMNS, ROWS, model)
            self.assertEqual((told.told(), len(told)), (wanted, 5))
            if model is not TREE:
                told.told().clear()
            self.assertEqual(told.told(), wanted)
            gone = copy.deepcopy(ROWS[:2])
            told.go(gone).clear()
            self.assertEqual(gone, ROWS[:2])
            self.assertEqual(told.told(), learn(COLUMNS, ROWS[2:], model))

    def test_by_the_names_of_the_interface(self):
        told = Learnt(model=SHARES, columns=COLUMNS)
        self.assertEqual(told.come(rows=ROWS), ["ann", "bob"])
        self.assertEqual(told.go(rows=ROWS), ["ann", "bob"])


if __name__ == "__main__":
    unittest.main()
