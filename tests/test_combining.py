import copy
import itertools
import random
import unittest
from fractions import Fraction

from asnevertold.combining import combination, lets_combination
from things import of_any_kind


def key(number):
    """A key."""
    return ("s", number)


def weighed(*numbers):
    """The weights of cells of these rows, one column."""
    return {(key(number), "x"): 1 for number in numbers}


PERSONS = {key(0): ("ann",), key(1): ("bob",), key(2): ("cid",), key(3): ("ann", "bob"), key(4): ("ann", "bob", "cid")}
TWO = [weighed(0, 1, 2), weighed(1, 2)]


def rank(rows):
    """How many of the rows are straight combinations of none of the others."""
    rows = [[Fraction(number) for number in row] for row in rows]
    found = 0
    for column in range(len(rows[0]) if rows else 0):
        pivot = next((at for at in range(found, len(rows)) if rows[at][column]), None)
        if pivot is None:
            continue
        rows[found], rows[pivot] = rows[pivot], rows[found]
        for at in range(len(rows)):
            if at != found:
                times = rows[at][column] / rows[found][column]
                rows[at] = [one - times * other for one, other in zip(rows[at], rows[found])]
        found += 1
    return found


def there_is_one(weights, persons, fewest):
    """Whether there is a combination, looked for by ranks alone, of each few persons for themselves."""
    cells = sorted({cell for there in weights for cell in there})
    vectors = {cell: [there.get(cell, 0) for there in weights] for cell in cells}
    everybody = sorted({person for cell in cells for person in persons[cell[0]]})
    for many in range(1, fewest):
        for few in itertools.combinations(everybody, many):
            away = [vectors[cell] for cell in cells if not set(persons[cell[0]]) <= set(few)]
            within = [vectors[cell] for cell in cells if set(persons[cell[0]]) <= set(few)]
            least = rank(away)
            last = [0] * (len(weights) - 1) + [1]
            if rank(away + [last]) > least and any(rank(away + [vector]) > least for vector in within):
                return True
    return False


def some_weights(seed):
    """Weights, persons and fewest, drawn."""
    chance = random.Random(seed)
    everybody = ["ann", "bob", "cid", "dan", "1", ""][:chance.randint(1, 6)]
    keys = [key(number) for number in range(chance.randint(1, 7))]
    persons = {}
    for one in keys:
        persons[one] = tuple(sorted(chance.sample(everybody, min(len(everybody), chance.choice([1, 1, 1, 2, 3])))))
    weights = []
    for _ in range(chance.randint(0, 5)):
        weights.append({(one, column): chance.choice([1, 1, -1, 2]) for one in keys for column in "xy"
                        if chance.random() < 0.4})
    return weights, persons, chance.randint(1, 4)


class Lets(unittest.TestCase):
    def lets(self, truth, weights, fewest, thing):
        self.assertIs(lets_combination(weights, PERSONS, fewest, thing), truth)

    def test_by_hand(self):
        self.lets(True, TWO, 2, [(1, 1), (-1, 1)])
        self.lets(True, TWO, 2, [(-3, 7), (3, 7)])
        self.lets(True, TWO, 3, [(0, 1), (1, 1)])
        self.lets(False, TWO, 2, [(0, 1), (1, 1)])
        self.lets(False, TWO, 2, [(1, 1), (1, 1)])
        self.lets(True, TWO, 4, [(1, 1), (1, 1)])
        self.lets(False, TWO, 3, [(1, 1), (1, 1)])

    def test_the_last_share_is_not_nought(self):
        self.lets(False, [weighed(0), weighed(1, 2)], 2, [(1, 1), (0, 1)])
        self.lets(True, [weighed(1, 2), weighed(0)], 2, [(0, 1), (1, 1)])
        self.lets(False, [], 4, [])

    def test_of_none_together(self):
        self.lets(False, [weighed(0), weighed(0)], 4, [(1, 1), (-1, 1)])
        self.lets(False, [{}], 4, [(1, 1)])
        self.lets(True, [weighed(0), {}], 2, [(1, 1), (5, 1)])

    def test_fewest(self):
        for fewest, truth in ((1, False), (2, False), (3, True), (4, True)):
            self.lets(truth, [weighed(3)], fewest, [(1, 1)])
        for fewest in (1, 2, 3):
            self.lets(False, [weighed(4)], fewest, [(1, 1)])
        self.lets(True, [weighed(4)], 4, [(2, 1)])
        self.lets(False, [weighed(0)], 1, [(1, 1)])

    def test_shares_in_lowest_terms_with_divisors_above_nought(self):
        for last in ((2, 2), (-1, -1), (1, 0), (1, -1), (6, 4), (0, 1), (0, 2), (-2, 2)):
            self.lets(False, [weighed(0)], 2, [last])
        for last in ((1, 1), (-1, 1), (1, 2), (-3, 2), (10 ** 50, 1), (10 ** 50 + 1, 10 ** 50)):
            self.lets(True, [weighed(0)], 2, [last])

    def test_weights_that_are_nought_by_shares(self):
        weights = [{(key(0), "x"): 2, (key(1), "x"): 3}, {(key(0), "x"): 1, (key(1), "x"): 1}]
        for shares, fewest, truth in (([(1, 3), (-1, 1)], 2, True), ([(1, 2), (-1, 1)], 2, True),
                                      ([(2, 5), (-1, 1)], 2, False), ([(2, 5), (-1, 1)], 3, True)):
            self.lets(truth, weights, fewest, shares)

    def test_of_anything(self):
        one = (1, 1)
        bad = of_any_kind() + [(one, one), [one], [one] * 3, [list(one), one], [one, (1, True)], [one, (True, 1)],
                               [one, (1,)], [one, (1, 1, 1)], [(1.0, 1), one], [one, (1, 1.0)], [1, 1], "11", [None, one],
                               [one, ("1", "1")], {0: one, 1: one}]
        for thing in bad + [[thing, one] for thing in of_any_kind()] + [[one, (thing, 1)] for thing in of_any_kind()]:
            with self.subTest(thing=repr(thing)):
                self.assertIs(lets_combination([weighed(0), weighed(0)], PERSONS, 4, thing), False)

    def test_what_is_handed_in_stays(self):
        weights, persons, thing = copy.deepcopy(TWO), dict(PERSONS), [(1, 1), (-1, 1)]
        lets_combination(weights=weights, persons=persons, fewest=2, thing=thing)
        self.assertEqual((weights, persons, thing), (TWO, PERSONS, [(1, 1), (-1, 1)]))


class Combination(unittest.TestCase):
    def found(self, weights, fewest, persons=None):
        persons = PERSONS if persons is None else persons
        told = combination(weights, persons, fewest)
        self.assertIs(lets_combination(weights, persons, fewest, told), True, told)
        self.assertEqual(combination(weights, persons, fewest), told)
        return told

    def none(self, weights, fewest, persons=None):
        self.assertIsNone(combination(weights, PERSONS if persons is None else persons, fewest))

    def test_by_hand(self):
        one, other = self.found(TWO, 2)
        self.assertEqual(one[0] * other[1], -other[0] * one[1])
        self.none([weighed(0, 1, 2)], 3)
        self.found([weighed(0, 1, 2)], 4)
        self.none([weighed(0, 1)], 2)
        self.found([weighed(3)], 3)
        self.none([weighed(3)], 2)

    def test_no_weights(self):
        for fewest in (1, 2, 3, 4):
            self.none([], fewest)
            self.none([{}], fewest)
            self.none([{}, {}], fewest)

    def test_nought_together(self):
        self.none([weighed(0, 1), weighed(0, 1)], 2)
        self.found([weighed(0), weighed(0)], 2)
        # Two that are alike tell of too few by other shares alone.
        self.found([weighed(0, 1), weighed(0, 1)], 3)

    def test_fewest_one_is_never_too_few(self):
        for seed in range(50):
            weights, persons, _ = some_weights(seed)
            self.none(weights, 1, persons)

    def test_what_alone_tells_nothing_tells_with_another(self):
        # The last weighs nothing, or nothing of few, but any share of it goes with the elder one.
        self.found([weighed(0), {}], 2)
        self.found([weighed(0), weighed(1, 2), weighed(1, 2)], 2)
        self.none([weighed(0), weighed(1, 2)], 2)

    def test_shares_below_nought_and_parts(self):
        weights = [{(key(0), "x"): 2, (key(1), "x"): 3, (key(2), "x"): 1}, {(key(1), "x"): 2, (key(2), "x"): 1},
                   {(key(2), "x"): 3, (key(1), "x"): 5}]
        self.found(weights, 2)
        self.found(weights[1:], 2)
        self.none(weights[:1], 3)

    def test_cells_of_no_persons_tell_nothing(self):
        persons = {**PERSONS, key(5): ()}
        self.none([weighed(5)], 4, persons)
        self.found([weighed(0, 5)], 2, persons)

    def test_just_where_there_is_one(self):
        found = 0
        for seed in range(600):
            weights, persons, fewest = some_weights(seed)
            if weights and there_is_one(weights, persons, fewest):
                self.found(weights, fewest, persons)
                found += 1
            else:
                self.none(weights, fewest, persons)
        self.assertGreater(found, 150)
        self.assertGreater(600 - found, 150)

    def test_of_many_sums_over_sixteen_persons(self):
        chance = random.Random(1)
        persons = {key(number): ("abcdefghijklmnop"[number % 16],) for number in range(60)}
        for many in (1, 8, 30):
            weights = [{(one, "x"): chance.choice([1, 2]) for one in persons if chance.random() < 0.5}
                       for _ in range(many)] + [{(one, "x"): 1 for one in persons}] * 2
            self.none(weights, 4, persons)
            # Last goes out what the first has but one person's cells.
            alone = persons[min(weights[0])[0]]
            weights.append({cell: often for cell, often in weights[0].items() if persons[cell[0]] != alone})
            self.found(weights, 2, persons)

    def test_what_is_handed_in_stays(self):
        weights, persons = copy.deepcopy(TWO), dict(PERSONS)
        combination(weights=weights, persons=persons, fewest=2).clear()
        self.assertEqual((weights, persons), (TWO, PERSONS))
        self.assertEqual(len(combination(weights, persons, 2)), 2)


if __name__ == "__main__":
    unittest.main()
