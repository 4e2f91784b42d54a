"""What a History and a Learnt tell, against a plain making anew of it here, from all that was told to them."""

import random
import unittest
from fractions import Fraction

from asnevertold.errors import NoEntry, NoRows
from asnevertold.history import History
from asnevertold.learnt import Learnt
from asnevertold.models import learn, turns
from things import two_to_a_stay

TABLES = two_to_a_stay()
PERSONS = ("ann", "bob", "cid", None)
COLUMNS = (("a", "number"), ("who", "person"), ("b", "number"), ("by", "person"), ("c", "number"))
CELLS = (None, 0, 1, 2, 3, 9, -4, 12, 10 ** 40)


def drawn_entry(chance, there):
    """An entry, which fits those that are there, or, at times, doesn't."""
    name = chance.choice(("visit", "stay", "stay", "mark"))
    known = max([entry[5] for entry in there], default=0) + chance.choice((0, 0, 1, 2))
    row = {"visit": (chance.choice(PERSONS), chance.randint(0, 9), chance.choice((None, 3))),
           "stay": (chance.choice(PERSONS), chance.choice(PERSONS), chance.randint(0, 9)),
           "mark": (chance.randint(0, 9),)}[name][:chance.randint(1, 3)]
    since = chance.randint(0, 9)
    keys = [entry[0] for entry in there]
    rights = chance.choice(keys) if keys and chance.random() < 0.4 else None
    cause = chance.choice(keys) if keys and chance.random() < 0.2 else None
    # Keys come in any order, so rows have to be sorted by them.
    return ((chance.choice("abc"), chance.randint(0, 40)), name, None if rights and chance.random() < 0.2 else row,
            since, chance.choice((None, None, since + chance.randint(1, 5))), known, rights, cause)


def drawn_history(seed, many=14):
    """A History with a plain list of what was let in."""
    chance = random.Random(seed)
    history, there = History(TABLES), []
    for _ in range(many):
        entry = drawn_entry(chance, there)
        word = plain_amiss(there, entry)
        try:
            history.put(entry)
            assert word is None
            there.append(entry)
        except NoEntry as e:
            assert e.word == word
    return history, there


def plain_amiss(there, entry):
    """The word of what is amiss: the keys' alone, all else is drawn as it is asked for."""
    key, name, _, _, _, _, rights, cause = entry
    keys = {one[0]: one for one in there}
    if key in keys:
        return "key"
    if rights is not None and (keys[rights][1] != name or any(one[6] == rights for one in there)):
        return "rights"
    return None


def plain_rows(there, name, so, known):
    """What stands in the table."""
    seen = [entry for entry in there if known is None or entry[5] <= known]
    columns = next(table[1] for table in TABLES if table[0] == name)
    rows = []
    for key, table, row, since, till, _, _, _ in seen:
        if table == name and row is not None and since <= so and (till is None or till > so):
            if not [entry for entry in seen if entry[6] == key]:
                rows.append(((name, key), row + tuple(column[2] for column in columns)[len(row):]))
    return sorted(rows, key=lambda pair: pair[0])


def plain_parted(there, persons):
    """What stays, the keys of what goes, and of what lacks something."""
    rules = {table[0]: table[2] for table in TABLES}
    stay, gone, lacking = [], [], []
    for entry in there:
        cells = [cell for cell in entry[2] or () if isinstance(cell, str)]
        theirs = [cell for cell in cells if cell in persons]
        goes = theirs if rules[entry[1]] == "row" else cells and len(theirs) == len(cells)
        if goes or entry[6] in gone or entry[7] in gone:
            gone.append(entry[0])
        elif theirs:
            lacking.append(entry[0])
            stay.append((*entry[:2], tuple(None if cell in persons else cell for cell in entry[2]), *entry[3:]))
        else:
            stay.append(entry)
    return stay, gone, lacking


class Histories(unittest.TestCase):
    def same(self, history, there):
        """The History tells what is made of these entries."""
        self.assertEqual((history.entries(), len(history), history.tables()), (there, len(there), TABLES))
        for so in (0, 3, 6, 11):
            for known in (None, 0, 2, 5, 999):
                stands = {name: plain_rows(there, name, so, known) for name in ("visit", "stay", "mark")}
                self.assertEqual(history.stands(so, known=known), stands)
                self.assertEqual(list(history.stands(so, known=known)), list(stands))
                for name in stands:
                    self.assertEqual(history.rows_at(name, so, known=known), stands[name])
        for entry in there:
            self.assertEqual(history.entry(entry[0]), entry)

    def test_rows(self):
        for seed in range(60):
            history, there = drawn_history(seed)
            self.same(history, there)

    def test_without(self):
        gone = 0
        for seed in range(60):
            history, there = drawn_history(seed)
            for persons in ((), ("ann",), ["bob", "cid"], ("cid", "ann", "bob"), ["dan"], ("ann", "ann")):
                stay, goes, lacking = plain_parted(there, persons)
                self.assertEqual((history.gone(persons), history.lacking(persons)), (goes, lacking))
                left = history.without(persons)
                self.same(left, stay)
                again = History(TABLES)
                for entry in stay:
                    again.put(entry)
                self.assertEqual(left, again)
                gone += len(goes)
            self.same(history, there)
        self.assertGreater(gone, 500)

    def test_without_goes_on_by_itself_as_one_that_was_never_told(self):
        for seed in range(30):
            chance = random.Random(seed)
            history, there = drawn_history(seed)
            left, (stay, _, _) = history.without(["ann"]), plain_parted(there, ["ann"])
            self.goes_on(chance, left, stay)
            self.same(history, there)

    def test_twin_goes_on_by_itself(self):
        for seed in range(30):
            chance = random.Random(seed)
            history, there = drawn_history(seed)
            twin = history.twin()
            self.assertEqual(twin, history)
            self.goes_on(chance, twin, list(there))
            self.same(history, there)
            # The elder one goes on, too, and no twin hears of it.
            other = history.twin()
            self.goes_on(chance, history, list(there))
            self.same(other, there)

    def goes_on(self, chance, history, there):
        """More is told to the History, or refused, as to one with these entries."""
        for _ in range(8):
            entry = drawn_entry(chance, there)
            word = plain_amiss(there, entry)
            try:
                history.put(entry)
                self.assertIsNone(word)
                there.append(entry)
            except NoEntry as e:
                self.assertEqual(e.word, word)
            self.same(history, there)

    def test_what_an_asker_does_changes_nothing(self):
        for seed in range(10):
            history, there = drawn_history(seed)
            for _ in range(2):
                told = history.stands(3)
                for rows in told.values():
                    rows.append("more")
                told.clear()
                history.rows_at("stay", 3).append("more")
                history.gone(["ann"]).append("more")
                history.lacking(["ann"]).append("more")
                history.entries().append("more")
            self.same(history, there)


def plain_shares(rows, model):
    """The shares."""
    place = [name for name, _ in COLUMNS].index(model[1])
    cells = [row[place] for row in rows if row[place] is not None]
    return sorted((cell, cells.count(cell), len(cells)) for cell in set(cells))


def plain_pairs(rows, model):
    """The pairs."""
    names, told = [name for name, _ in COLUMNS], []
    for at, one in enumerate(model[1]):
        for other in model[1][at + 1:]:
            both = [(row[names.index(one)], row[names.index(other)]) for row in rows]
            for cell, beside in sorted({pair for pair in both if None not in pair}):
                many = both.count((cell, beside))
                told.extend([(one, cell, other, beside, many)] if many >= model[2] else [])
    return told


def cost_of(cells):
    """What a lot of rows costs."""
    return len(cells) - Fraction(sum(cells.count(cell) ** 2 for cell in set(cells)), len(cells))


def plain_tree(rows, model):
    """The tree."""
    names = [name for name, _ in COLUMNS]
    place = names.index(model[1])
    return plain_node([row for row in rows if row[place] is not None], place, model[2], model[3])


def plain_node(rows, place, columns, deep):
    """A node of the tree."""
    cells = [row[place] for row in rows]
    counts = tuple(sorted((cell, cells.count(cell)) for cell in set(cells)))
    best = None
    for column in columns if deep else ():
        at = [name for name, _ in COLUMNS].index(column)
        for worth in sorted({row[at] for row in rows if row[at] is not None}):
            one = [row for row in rows if row[at] is not None and row[at] <= worth]
            other = [row for row in rows if row not in one]
            if other:
                cost = sum(cost_of([row[place] for row in part]) for part in (one, other))
                if cost < cost_of(cells) and (best is None or cost < best[0]):
                    best = cost, column, worth, one, other
    if best is None:
        return "leaf", counts
    _, column, worth, one, other = best
    return ("split", counts, column, worth, plain_node(one, place, columns, deep - 1),
            plain_node(other, place, columns, deep - 1))


def plain_lots(rows, model):
    """The lots."""
    names, begins, moves = model[1:]
    places = [[name for name, _ in COLUMNS].index(name) for name in names]
    points = [[row[place] for place in places] for row in rows]
    points = [point for point in points if None not in point]
    centres = [[Fraction(worth) for worth in begin] for begin in begins]
    told = [(centres, ())]
    for _ in range(moves):
        lots = [[] for _ in centres]
        for point in points:
            away = [sum((cell - part) ** 2 for cell, part in zip(point, centre)) for centre in centres]
            lots[away.index(min(away))].append(point)
        centres = [[Fraction(sum(cells), len(lot)) for cells in zip(*lot)] or centre for lot, centre in zip(lots, centres)]
        told.append((centres, tuple(len(lot) for lot in lots)))
    return [(tuple(tuple((part.numerator, part.denominator) for part in centre) for centre in there), manys)
            for there, manys in told]


PLAIN = {"shares": plain_shares, "pairs": plain_pairs, "tree": plain_tree, "lots": plain_lots}
MODELS = (
    ("shares", "who"), ("shares", "c"), ("pairs", ("who", "a", "by"), 1), ("pairs", ("b", "who"), 2),
    ("pairs", ("c", "by", "a", "who"), 3), ("tree", "who", ("a", "b"), 3), ("tree", "a", ("c", "a", "b"), 2),
    ("tree", "by", ("c",), 1), ("tree", "b", ("a",), 0), ("lots", ("a", "b"), ((0, 0), (9, 9), (0, 9), (9, 0)), 6),
    ("lots", ("c",), ((3,),), 2), ("lots", ("b", "c"), ((1, 2), (2, 1)), 0), ("lots", ("a",), ((0,), (1,), (2,)), 6),
)


def drawn_rows(chance, many):
    """Rows of the columns."""
    return [tuple(chance.choice(PERSONS if kind == "person" else CELLS) for _, kind in COLUMNS) for _ in range(many)]


class LearntOnes(unittest.TestCase):
    def test_learnt_anew(self):
        for seed in range(60):
            chance = random.Random(seed)
            rows = drawn_rows(chance, chance.randint(0, 12))
            for model in MODELS:
                self.assertEqual(learn(COLUMNS, rows, model), PLAIN[model[0]](rows, model))

    def test_come_go_and_told(self):
        turned = 0
        for seed in range(25):
            for model in MODELS:
                chance = random.Random(seed)
                learnt, rows = Learnt(COLUMNS, model), []
                for _ in range(10):
                    before = PLAIN[model[0]](rows, model)
                    if rows and chance.random() < 0.45:
                        goes = chance.sample(rows, chance.randint(1, min(3, len(rows))))
                        told = learnt.go(goes)
                        for row in goes:
                            rows.remove(row)
                    else:
                        comes = drawn_rows(chance, chance.randint(0, 3))
                        comes += chance.sample(rows, min(len(rows), chance.randint(0, 1)))
                        told = learnt.come(comes)
                        rows.extend(comes)
                    after = PLAIN[model[0]](rows, model)
                    self.assertEqual((learnt.told(), len(learnt)), (after, len(rows)))
                    self.assertEqual(type(learnt.told()), type(after))
                    self.assertEqual(told, turns(model, before, after))
                    self.assertEqual(bool(told), before != after)
                    turned += bool(told)
        self.assertGreater(turned, 1000)

    def test_twins_and_refusals(self):
        for seed in range(15):
            for model in MODELS:
                chance = random.Random(seed)
                rows, more = drawn_rows(chance, 6), drawn_rows(chance, 3)
                learnt = Learnt(COLUMNS, model)
                learnt.come(rows)
                twin = learnt.twin()
                twin.come(more)
                self.assertEqual((learnt.told(), twin.told()), tuple(PLAIN[model[0]](there, model) for there in (rows, rows + more)))
                for bad in (rows[:1] * 9, rows + more + rows[:1], [rows[0], ("x",)], [None], tuple(rows)):
                    self.assertRaises(NoRows, learnt.go, bad)
                    self.assertRaises(NoRows, learnt.come, bad if not isinstance(bad, list) else bad + [()])
                self.assertEqual((learnt.told(), len(learnt)), (PLAIN[model[0]](rows, model), 6))
                learnt.go(rows[::-1])
                self.assertEqual((learnt.told(), len(learnt)), (PLAIN[model[0]]([], model), 0))
                self.assertEqual(twin.told(), PLAIN[model[0]](rows + more, model))

    def test_what_an_asker_does_changes_nothing(self):
        for model in MODELS:
            rows = drawn_rows(random.Random(3), 8)
            learnt, handed = Learnt(COLUMNS, model), list(rows)
            learnt.come(handed).append("more")
            handed.clear()
            for _ in range(2):
                if isinstance(learnt.told(), list):
                    learnt.told().append("more")
                    learnt.told().clear()
            gone = rows[:2]
            learnt.go(gone).append("more")
            gone.clear()
            self.assertEqual(learnt.told(), PLAIN[model[0]](rows[2:], model))


if __name__ == "__main__":
    unittest.main()
