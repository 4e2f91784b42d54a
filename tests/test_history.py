import copy
import itertools
import unittest

from asnevertold.errors import NoEntry, NoKey, NoMoment, NoPerson, NoTable, NoTables
from asnevertold.history import History
from asnevertold.tables import persons_of, read_row
from things import Likes, of_any_kind, some_entries, two_to_a_stay

TABLES = two_to_a_stay()
WORDS = ("form", "table", "row", "key", "known", "rights", "cause")
FIRST = (("s", 0), "visit", ("ann", 1), 0, None, 5, None, None)
SECOND = (("s", 1), "stay", ("ann", "bob", 3), 2, 4, 6, None, ("s", 0))
THIRD = (("s", 2), "visit", ("bob", 1, 4), 0, 9, 7, ("s", 0), None)
GOOD = (("s", 3), "visit", ("cid", 1), 3, 5, 7, ("s", 2), ("s", 1))
MORE_NUMBERS = [-1, 1000, 9999, 10000, 10 ** 60, -10 ** 60, 2.0, "3", "ann"]


def told(*entries, tables=TABLES):
    """A History of these."""
    made = History(tables)
    for entry in entries:
        made.put(entry)
    return made


def three():
    """A History of three entries."""
    return told(FIRST, SECOND, THIRD)


def put(entry, place, thing):
    """The entry with the thing at the place."""
    return entry[:place] + (thing,) + entry[place + 1:]


def at(number, name, row, rights=None, cause=None, *, since=0, till=None, known=0):
    """An entry; rights and cause by their numbers."""
    keys = [None if other is None else ("s", other) for other in (rights, cause)]
    return (("s", number), name, row, since, till, known, *keys)


def numbers(keys):
    """The numbers of the keys."""
    return [number for _, number in keys]


class Refusals(unittest.TestCase):
    def refused(self, word, entry, history=None):
        history = history or three()
        before, kept = history.entries(), history.twin()
        with self.assertRaises(NoEntry) as caught:
            history.put(entry)
        self.assertEqual(caught.exception.word, word, repr(entry))
        self.assertEqual((history.entries(), len(history)), (before, len(before)))
        self.assertEqual(history, kept)
        self.assertEqual(history.stands(3), kept.stands(3))
        history.put(GOOD)
        self.assertEqual(history.entries(), before + [GOOD])

    def good(self, entry, history=None):
        history = history or three()
        before = history.entries()
        self.assertIsNone(history.put(entry))
        self.assertEqual(history.entries(), before + [entry])

    def test_all_words_the_first_that_is_due(self):
        faults = {"form": (4, 3), "table": (1, "none"), "row": (2, (5,)), "key": (0, ("s", 1)), "known": (5, 6),
                  "rights": (6, ("s", 9)), "cause": (7, ("s", 9))}
        self.good(GOOD)
        for many in range(1, 8):
            for words in itertools.combinations(WORDS, many):
                entry = GOOD
                for word in words:
                    entry = put(entry, *faults[word])
                self.refused(words[0], entry)

    def test_of_anything(self):
        for thing in of_any_kind() + [0, "entry", list(GOOD), GOOD[:-1], GOOD + (None,), (GOOD,), {GOOD[0]: GOOD}]:
            with self.subTest(thing=repr(thing)):
                self.refused("form", thing)

    def test_each_place_of_other_kinds(self):
        words = ("form", "table", "row", "form", "form", "form", "rights", "cause")
        for place, word in enumerate(words):
            for thing in of_any_kind():
                with self.subTest(place=place, thing=repr(thing)):
                    if thing is None and place in (2, 4, 6, 7) or isinstance(thing, tuple) and thing and place == 2:
                        self.good(put(GOOD, place, thing))
                    else:
                        self.refused(word, put(GOOD, place, thing))

    def test_lists_for_tuples_and_truths_for_whole_numbers(self):
        self.refused("form", list(GOOD))
        self.refused("form", put(GOOD, 0, ["s", 3]))
        self.refused("row", put(GOOD, 2, ["cid", 1]))
        self.refused("rights", put(GOOD, 6, ["s", 2]))
        self.refused("cause", put(GOOD, 7, ["s", 1]))
        self.refused("form", put(GOOD, 0, ("s", True)))
        self.refused("form", put(GOOD, 0, ("s", False)))
        self.refused("row", put(GOOD, 2, ("cid", True)))
        for place in (3, 4, 5):
            for truth in (True, False):
                self.refused("form", put(GOOD, place, truth))
        # The keys of these numbers stand there, and may be put right, or be a cause.
        self.good(put(GOOD, 6, ("s", 0)), told(FIRST, SECOND, put(THIRD, 6, None)))
        self.refused("rights", put(GOOD, 6, ("s", False)), told(FIRST, SECOND, put(THIRD, 6, None)))
        self.refused("cause", put(GOOD, 7, ("s", True)))
        self.refused("cause", put(GOOD, 7, ("s", False)))

    def test_keys(self):
        for key in (("abcdefgh", 9999), ("t", 0), ("s", 9999), ("t", 1)):
            self.good(put(GOOD, 0, key))
        for key in (("s", 10000), ("s", -1), ("s",), ("s", 3, 3), ("S", 3), ("abcdefghi", 3), (3, "s"), ("", 3), "s3"):
            self.refused("form", put(GOOD, 0, key))
        for number in range(3):
            self.refused("key", put(GOOD, 0, ("s", number)))

    def test_moments(self):
        self.good(put(put(GOOD, 3, 0), 4, 1))
        self.good(put(put(GOOD, 3, 998), 4, 999))
        self.good(put(put(GOOD, 3, 999), 4, None))
        self.good(put(GOOD, 5, 999))
        for place in (3, 4, 5):
            for number in MORE_NUMBERS:
                self.refused("form", put(GOOD, place, number))
        self.refused("form", put(GOOD, 3, None))
        self.refused("form", put(GOOD, 5, None))

    def test_till_is_greater_than_since(self):
        for since, till in ((0, 0), (3, 3), (3, 2), (999, 0), (999, 999), (1, 0)):
            self.refused("form", put(put(GOOD, 3, since), 4, till))

    def test_table(self):
        for name in ("who", "visits", "none", "abcdefghi", "Visit", "", 0, ("visit",), ["visit"]):
            self.refused("table", put(GOOD, 1, name))
        self.refused("rights", put(put(GOOD, 1, "mark"), 2, (3,)))

    def test_row(self):
        for row in ((), ("cid", 1, 2, 3), (1, "cid"), ("cid", 10), ("cid", -1), ("Cid",), "cid", 0, (("cid",),)):
            self.refused("row", put(GOOD, 2, row))
        for row in (("cid",), (None,), ("cid", 0, 9), ("cid", None, None)):
            self.good(put(GOOD, 2, row))

    def test_a_row_none_stands_with_rights_alone(self):
        self.refused("form", put(put(GOOD, 2, None), 6, None))
        self.good(put(GOOD, 2, None))
        # What is there as rights, but is none, is looked at in its turn.
        for rights in (("s", 9), "s", 0, ["s", 2], ("s", True)):
            self.refused("rights", put(put(GOOD, 2, None), 6, rights))
        self.refused("table", put(put(put(GOOD, 2, None), 6, "s"), 1, "none"))

    def test_known_never_falls(self):
        for known in (0, 4, 5, 6):
            self.refused("known", put(GOOD, 5, known))
        for known in (7, 8, 999):
            self.good(put(GOOD, 5, known))
        empty = History(TABLES)
        empty.put(put(FIRST, 5, 0))
        self.assertEqual(len(empty), 1)

    def test_rights(self):
        self.refused("rights", put(GOOD, 6, ("s", 3)))
        self.refused("rights", put(GOOD, 6, ("t", 2)))
        # Of another table, and of one that another one puts right.
        self.refused("rights", put(GOOD, 6, ("s", 1)))
        self.refused("rights", put(GOOD, 6, ("s", 0)))
        self.good(put(GOOD, 6, ("s", 2)))
        self.good(put(GOOD, 6, None))

    def test_a_row_taken_back_is_put_right_already(self):
        history = told(FIRST, at(1, "visit", None, 0, known=5))
        with self.assertRaises(NoEntry) as caught:
            history.put(at(2, "visit", ("bob",), 0, known=5))
        self.assertEqual(caught.exception.word, "rights")
        history.put(at(2, "visit", ("bob",), 1, known=5))
        self.assertEqual(len(history), 3)

    def test_cause(self):
        for cause in (("s", 3), ("t", 0), ("s", 9999)):
            self.refused("cause", put(GOOD, 7, cause))
        for number in range(3):
            self.good(put(GOOD, 7, ("s", number)))
        self.good(put(GOOD, 7, None))

    def test_no_tables(self):
        for thing in of_any_kind() + [0, "visit", list(TABLES), TABLES[0], TABLES + TABLES[:1], (list(TABLES[0]),)]:
            with self.subTest(thing=repr(thing)):
                self.assertRaises(NoTables, History, thing)


class Told(unittest.TestCase):
    def test_tables_entries_and_length(self):
        history = three()
        self.assertEqual(history.tables(), TABLES)
        self.assertEqual(history.entries(), [FIRST, SECOND, THIRD])
        self.assertEqual([len(History(TABLES)), len(history)], [0, 3])
        self.assertEqual(History(TABLES).entries(), [])
        self.assertEqual((type(history.tables()), type(history.entries())), (tuple, list))

    def test_entry_by_its_key(self):
        for entry in (FIRST, SECOND, THIRD):
            self.assertEqual(three().entry(entry[0]), entry)

    def test_no_key(self):
        for thing in of_any_kind() + [("s", 3), ("t", 0), ("s", True), ("s", False), ["s", 0], ("s", 0.0), "s", FIRST]:
            with self.subTest(thing=repr(thing)):
                with self.assertRaises(NoKey) as caught:
                    three().entry(thing)
                self.assertIs(caught.exception.key, thing)

    def test_told_lists_are_new(self):
        history = three()
        history.entries().clear()
        history.rows_at("visit", 3).clear()
        stands = history.stands(3)
        stands["visit"].clear()
        stands.clear()
        history.gone(["ann"]).clear()
        history.lacking(["ann"]).clear()
        self.assertEqual(history, three())
        self.assertEqual(history.stands(3), three().stands(3))
        self.assertEqual(history.gone(["ann"]), three().gone(["ann"]))

    def test_likeness(self):
        self.assertEqual(three(), three())
        self.assertNotEqual(three(), told(FIRST, SECOND))
        self.assertNotEqual(told(FIRST), told(put(FIRST, 4, 9)))
        self.assertNotEqual(told(FIRST, put(FIRST, 0, ("t", 0))), told(put(FIRST, 0, ("t", 0)), FIRST))
        self.assertEqual(History(TABLES), History(copy.deepcopy(TABLES)))
        self.assertNotEqual(History(TABLES), History(TABLES[:2]))
        self.assertNotEqual(told(FIRST), told(FIRST, tables=TABLES[::-1]))

    def test_likeness_with_other_kinds(self):
        for thing in of_any_kind() + [[FIRST, SECOND, THIRD], 3, Likes(), (TABLES, [FIRST])]:
            self.assertIs(three() == thing, False)
            self.assertIs(three() != thing, True)

    def test_twin_goes_on_by_itself(self):
        history = three()
        twin = history.twin()
        self.assertEqual(twin, history)
        twin.put(GOOD)
        self.assertEqual((len(twin), len(history)), (4, 3))
        self.assertNotEqual(twin, history)
        history.put(GOOD)
        self.assertEqual(twin, history)
        self.assertRaises(NoEntry, twin.put, put(GOOD, 0, ("s", 4)))

    def test_by_the_names_of_the_interface(self):
        history = History(tables=TABLES)
        history.put(entry=FIRST)
        self.assertEqual(history.entry(key=("s", 0)), FIRST)
        self.assertEqual(history.rows_at(so=0, name="visit", known=4), [])
        self.assertEqual(history.stands(so=0, known=4), {"visit": [], "stay": [], "mark": []})
        self.assertEqual(history.without(persons=["ann"]), History(TABLES))
        self.assertEqual((history.gone(persons=["ann"]), history.lacking(persons=["ann"])), ([("s", 0)], []))
        with self.assertRaises(TypeError):
            history.rows_at("visit", 0, 4)
        with self.assertRaises(TypeError):
            history.stands(0, 4)


class Rows(unittest.TestCase):
    def keys(self, history, so, known=None, name="visit"):
        rows = history.rows_at(name, so, known=known)
        self.assertEqual({found[0] for (found, row) in rows} - {name}, set())
        return numbers([found[1] for found, row in rows])

    def test_since_and_till(self):
        history = told(at(0, "visit", ("ann",), since=2, till=5), at(1, "visit", ("bob",), since=4))
        self.assertEqual([self.keys(history, so) for so in range(7)], [[], [], [0], [0], [0, 1], [1], [1]])
        self.assertEqual(self.keys(history, 999), [1])

    def test_known(self):
        history = told(at(0, "visit", ("ann",), known=3), at(1, "visit", ("bob",), known=5))
        found = [self.keys(history, 0, known) for known in (0, 2, 3, 4, 5, 999, None)]
        self.assertEqual(found, [[], [], [0], [0], [0, 1], [0, 1], [0, 1]])

    def test_put_right_and_put_right_again(self):
        history = told(at(0, "visit", ("ann",), known=1), at(1, "visit", ("bob",), 0, known=3),
                       at(2, "visit", ("cid",), 1, known=5))
        found = [self.keys(history, 0, known) for known in (0, 1, 2, 3, 4, 5, None)]
        self.assertEqual(found, [[], [0], [0], [1], [1], [2], [2]])

    def test_what_puts_right_stands_by_its_own_moments(self):
        history = told(at(0, "visit", ("ann",), known=1), at(1, "visit", ("bob",), 0, since=5, till=7, known=3))
        self.assertEqual([self.keys(history, so, 1) for so in (0, 5, 7)], [[0], [0], [0]])
        self.assertEqual([self.keys(history, so, 3) for so in (0, 5, 7)], [[], [1], []])

    def test_taken_back(self):
        history = told(at(0, "visit", ("ann",), known=1), at(1, "visit", None, 0, known=3))
        self.assertEqual([self.keys(history, 0, known) for known in (1, 2, 3, None)], [[0], [0], [], []])
        history.put(at(2, "visit", ("ann", 3), 1, known=4))
        self.assertEqual([self.keys(history, 0, known) for known in (1, 3, 4)], [[0], [], [2]])

    def test_put_right_within_one_moment(self):
        history = told(at(0, "visit", ("ann",), known=1), at(1, "visit", ("bob",), 0, known=1))
        self.assertEqual([self.keys(history, 0, known) for known in (0, 1)], [[], [1]])

    def test_read_with_defaults_and_sorted_by_thread(self):
        history = told((("b", 1), "stay", ("ann",), 0, None, 0, None, None),
                       (("a", 10), "stay", ("ann", None, None), 0, None, 0, None, None),
                       (("a", 9), "stay", (None, "bob", 7), 0, None, 0, None, None))
        self.assertEqual(history.rows_at("stay", 0), [
            (("stay", ("a", 9)), (None, "bob", 7)),
            (("stay", ("a", 10)), ("ann", None, None)),
            (("stay", ("b", 1)), ("ann", None, 4)),
        ])

    def test_stands_of_each_table(self):
        history = told(at(0, "visit", ("ann",)), at(1, "mark", (5,)), at(2, "visit", ("bob", 3), known=2))
        rows = {"visit": [(("visit", ("s", 0)), ("ann", 0, None)), (("visit", ("s", 2)), ("bob", 3, None))],
                "stay": [], "mark": [(("mark", ("s", 1)), (5,))]}
        self.assertEqual(history.stands(0), rows)
        self.assertEqual(history.stands(0, known=1), {**rows, "visit": rows["visit"][:1]})
        self.assertEqual(History(TABLES).stands(7), {"visit": [], "stay": [], "mark": []})
        self.assertEqual(list(history.stands(0)), ["visit", "stay", "mark"])

    def test_refusals_from_left_to_right(self):
        history = three()
        for name in of_any_kind() + ["none", 0, "abcdefghi", ["visit"]]:
            for so in (0, None, True):
                with self.assertRaises(NoTable) as caught:
                    history.rows_at(name, so, known=True)
                self.assertIs(caught.exception.name, name)
        for so in of_any_kind() + MORE_NUMBERS:
            for known in (None, 0, -1, True):
                for ask in (lambda: history.rows_at("visit", so, known=known), lambda: history.stands(so, known=known)):
                    with self.assertRaises(NoMoment) as caught:
                        ask()
                    self.assertIs(caught.exception.thing, so)
        for known in of_any_kind()[1:] + MORE_NUMBERS:
            for ask in (lambda: history.rows_at("visit", 0, known=known), lambda: history.stands(0, known=known)):
                with self.assertRaises(NoMoment) as caught:
                    ask()
                self.assertIs(caught.exception.thing, known)

    def test_as_known_is_as_told_just_what_was_known_then(self):
        for seed in range(20):
            entries = some_entries(seed)
            whole = told(*entries)
            for known in range(entries[-1][5] + 2):
                then = told(*[entry for entry in entries if entry[5] <= known])
                for so in range(0, 14, 2):
                    self.assertEqual(whole.stands(so, known=known), then.stands(so))

    def test_one_by_one_as_the_point_tells(self):
        for seed in range(20):
            entries = some_entries(seed)
            history = told(*entries)
            for so, known in itertools.product(range(0, 14, 3), (None, 0, 2, 4, 8)):
                there = [entry for entry in entries if known is None or entry[5] <= known]
                for table in TABLES:
                    rows = []
                    for key, name, row, since, till, *_ in there:
                        over = till is not None and till <= so
                        if name == table[0] and row is not None and since <= so and not over \
                                and not any(other[6] == key for other in there):
                            rows.append(((name, key), read_row(table, row)))
                    self.assertEqual(history.rows_at(table[0], so, known=known), sorted(rows, key=lambda one: one[0]))


class Without(unittest.TestCase):
    def parts(self, history, *persons):
        """The numbers that stay, go, and lack something."""
        stay = numbers([entry[0] for entry in history.without(persons).entries()])
        return stay, numbers(history.gone(persons)), numbers(history.lacking(persons))

    def test_by_rule_row(self):
        history = told(at(0, "visit", ("ann", 1)),
                       at(1, "visit", ("bob",)), at(2, "visit", (None, 2)), at(3, "mark", (1,)))
        self.assertEqual(self.parts(history, "ann"), ([1, 2, 3], [0], []))
        self.assertEqual(self.parts(history, "ann", "bob"), ([2, 3], [0, 1], []))
        self.assertEqual(self.parts(history, "cid"), ([0, 1, 2, 3], [], []))
        two = (("two", (("one", "person", None), ("other", "person", None)), "row"),)
        both = told(at(0, "two", ("ann", "bob")), at(1, "two", (None, "bob")), at(2, "two", ("bob", "cid")), tables=two)
        self.assertEqual(self.parts(both, "ann"), ([1, 2], [0], []))
        self.assertEqual(self.parts(both, "bob"), ([], [0, 1, 2], []))

    def test_by_rule_part(self):
        history = told(at(0, "stay", ("ann", "bob", 3)), at(1, "stay", ("ann", "ann")), at(2, "stay", ("ann",)),
                       at(3, "stay", (None, "ann", 1)), at(4, "stay", (None, None, 1)), at(5, "stay", ("cid", "bob")))
        self.assertEqual(self.parts(history, "ann"), ([0, 4, 5], [1, 2, 3], [0]))
        self.assertEqual(self.parts(history, "ann", "bob"), ([4, 5], [0, 1, 2, 3], [5]))
        self.assertEqual(self.parts(history, "dan"), ([0, 1, 2, 3, 4, 5], [], []))
        left = history.without(["ann"]).entries()
        self.assertEqual(left, [at(0, "stay", (None, "bob", 3)), at(4, "stay", (None, None, 1)),
                                at(5, "stay", ("cid", "bob"))])
        left = history.without(["ann", "bob"]).entries()
        self.assertEqual(left, [at(4, "stay", (None, None, 1)), at(5, "stay", ("cid", None))])

    def test_a_row_that_puts_right_one_that_goes_goes_too(self):
        history = told(at(0, "visit", ("ann",)), at(1, "visit", ("bob",), 0), at(2, "visit", ("cid",), 1))
        self.assertEqual(self.parts(history, "ann"), ([], [0, 1, 2], []))
        self.assertEqual(self.parts(history, "bob"), ([0], [1, 2], []))
        self.assertEqual(self.parts(history, "cid"), ([0, 1], [2], []))

    def test_the_elder_row_stands_again(self):
        history = told(at(0, "visit", ("ann",)), at(1, "visit", ("bob",), 0))
        self.assertEqual(numbers([found[1] for found, _ in history.rows_at("visit", 0)]), [1])
        left = history.without(["bob"])
        self.assertEqual(numbers([found[1] for found, _ in left.rows_at("visit", 0)]), [0])
        left.put(at(2, "visit", ("cid",), 0))
        self.assertEqual(numbers([found[1] for found, _ in left.rows_at("visit", 0)]), [2])

    def test_taken_back_rows(self):
        history = told(at(0, "visit", ("ann",)), at(1, "visit", None, 0), at(2, "stay", ("ann", "bob")),
                       at(3, "stay", None, 2))
        self.assertEqual(self.parts(history, "ann"), ([2, 3], [0, 1], [2]))
        self.assertEqual(self.parts(history, "bob"), ([0, 1, 2, 3], [], [2]))
        self.assertEqual(self.parts(history, "bob", "ann"), ([], [0, 1, 2, 3], []))

    def test_causes_in_chains(self):
        history = told(at(0, "visit", ("ann",)), at(1, "mark", (1,), None, 0), at(2, "mark", (2,), None, 1),
                       at(3, "mark", (3,)), at(4, "mark", (4,), 3, 2), at(5, "stay", ("ann", "bob"), None, 3),
                       at(6, "stay", ("bob",), None, 5))
        self.assertEqual(self.parts(history, "ann"), ([3, 5, 6], [0, 1, 2, 4], [5]))
        self.assertEqual(self.parts(history, "bob"), ([0, 1, 2, 3, 4, 5], [6], [5]))
        self.assertEqual(self.parts(history, "ann", "bob"), ([3], [0, 1, 2, 4, 5, 6], []))
        # What lacks something has not gone: what it caused stays.
        self.assertEqual(history.without(["ann"]).entry(("s", 6)), history.entry(("s", 6)))

    def test_what_goes_lacks_nothing(self):
        history = told(at(0, "visit", ("ann",)), at(1, "stay", ("ann", "bob"), None, 0))
        self.assertEqual(self.parts(history, "ann"), ([], [0, 1], []))

    def test_persons_in_any_order_one_by_one_or_at_once(self):
        tried = 0
        for seed in range(60):
            history = told(*some_entries(seed))
            for persons in (("ann", "bob"), ("ann", "bob", "cid"), ("cid", "bob"), ("dan", "ann")):
                at_once, gone = history.without(persons), history.gone(persons)
                for order in itertools.permutations(persons):
                    left, went = history, []
                    for person in order:
                        went.extend(left.gone([person]))
                        left = left.without((person,))
                    self.assertEqual(left, at_once)
                    self.assertEqual(sorted(went), sorted(gone))
                    tried += len(gone)
                self.assertEqual(history.without(persons + persons), at_once)
                self.assertEqual(at_once.without(persons), at_once)
                self.assertEqual((at_once.gone(persons), at_once.lacking(persons)), ([], []))
        self.assertGreater(tried, 1000)

    def test_what_stays_goes_and_lacks_is_told_in_order(self):
        for seed in range(30):
            entries = some_entries(seed)
            history = told(*entries)
            left, gone, lacking = history.without(["ann"]), history.gone(["ann"]), history.lacking(["ann"])
            keys = [entry[0] for entry in entries]
            self.assertEqual([key for key in keys if key in gone], gone)
            self.assertEqual([entry[0] for entry in left.entries()], [key for key in keys if key not in gone])
            self.assertEqual([entry[0] for entry in left.entries() if entry != history.entry(entry[0])], lacking)
            for entry in left.entries():
                self.assertNotIn("ann", persons_of(entry[2] or ()))
                self.assertEqual(entry[3:], history.entry(entry[0])[3:])

    def test_as_known_at_a_moment_too(self):
        for seed in range(30):
            entries = some_entries(seed)
            for known in (1, 4, 7):
                then = told(*[entry for entry in entries if entry[5] <= known]).without(["bob"])
                self.assertEqual(told(*entries).without(["bob"]).stands(6, known=known), then.stands(6))

    def test_of_none(self):
        for persons in ([], (), ["dan"], ("dan", "eve", "dan")):
            self.assertEqual(three().without(persons), three())
            self.assertEqual((three().gone(persons), three().lacking(persons)), ([], []))
        self.assertEqual(History(TABLES).without(["ann"]), History(TABLES))

    def test_goes_on_by_itself(self):
        history = three()
        left = history.without([])
        left.put(GOOD)
        self.assertEqual((len(history), len(left)), (3, 4))
        history.put(put(GOOD, 2, ("dan",)))
        self.assertEqual(left.entry(("s", 3)), GOOD)
        left = three().without(["bob"])
        left.put(put(THIRD, 2, ("cid",)))
        self.assertEqual(left.entry(("s", 2)), put(THIRD, 2, ("cid",)))

    def test_no_person(self):
        for thing in of_any_kind() + ["ann", 0, ["Ann"], ("ann", None), ["ann", 5], {"ann": 1}, [["ann"]], [True]]:
            if not (isinstance(thing, (list, tuple)) and all(one == "ann" for one in thing)):
                for ask in (three().without, three().gone, three().lacking):
                    with self.subTest(thing=repr(thing)):
                        with self.assertRaises(NoPerson) as caught:
                            ask(thing)
                        self.assertIs(caught.exception.thing, thing)

    def test_what_is_handed_in_stays(self):
        history, persons = three(), ["bob", "ann"]
        for ask in (history.without, history.gone, history.lacking):
            ask(persons)
        self.assertEqual(persons, ["bob", "ann"])
        self.assertEqual(history, three())


if __name__ == "__main__":
    unittest.main()
