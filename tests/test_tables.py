import copy
import unittest

from asnevertold.tables import are_tables, is_row, persons_of, read_row
from things import of_any_kind, visits_and_stays

WHO = ("who", "person", None)
DAY = ("day", "number", 0)
VISIT = ("visit", (WHO, DAY, ("cost", "number", None)), "row")
NAMES = ("a", "b", "c", "d", "e", "f", "g")


def columns(many):
    """So many number columns."""
    return tuple([(name, "number", None) for name in NAMES[:many]])


def tables(many):
    """So many tables."""
    return tuple([(name, (WHO, DAY), "part") for name in NAMES[:many]])


class Tables(unittest.TestCase):
    def good(self, *told):
        self.assertIs(are_tables(told), True, told)

    def bad(self, *told):
        self.assertIs(are_tables(told), False, told)

    def test_one_to_six_tables(self):
        self.assertTrue(are_tables(visits_and_stays()))
        for many in range(1, 7):
            self.good(*tables(many))
        self.bad()
        self.bad(*tables(7))

    def test_one_to_six_columns(self):
        for many in range(1, 7):
            self.good(("visit", columns(many), "row"))
        self.bad(("visit", (), "row"))
        self.bad(("visit", columns(7), "row"))

    def test_rules(self):
        for rule in ("row", "part"):
            self.good(("visit", (WHO,), rule))
        for rule in of_any_kind() + ["rows", "parts", "Row", "number", "person", 0]:
            with self.subTest(rule=repr(rule)):
                self.bad(("visit", (WHO,), rule))

    def test_names_of_tables_and_columns(self):
        for name in ("a", "abcdefgh", "visit", "row"):
            self.good((name, (WHO,), "row"))
            self.good(("visit", ((name, "person", None),), "row"))
        for name in of_any_kind() + ["abcdefghi", "A", "a b", 0, 5, ("a",), ["a"]]:
            with self.subTest(name=repr(name)):
                self.bad((name, (WHO,), "row"))
                self.bad(("visit", ((name, "person", None),), "row"))

    def test_alike_names(self):
        self.bad(VISIT, VISIT)
        self.bad(VISIT, ("stay", (WHO,), "part"), ("visit", (DAY,), "part"))
        self.bad(("visit", (WHO, DAY, ("who", "number", 3)), "row"))
        self.bad(("visit", (WHO, WHO), "row"))
        self.good(VISIT, ("stay", (WHO, DAY), "row"), ("who", (("visit", "number", None),), "part"))

    def test_kinds(self):
        for kind in ("person", "number"):
            self.good(("visit", (("who", kind, None),), "row"))
        for kind in of_any_kind() + ["persons", "Person", "row", "name", 0]:
            with self.subTest(kind=repr(kind)):
                self.bad(("visit", (("who", kind, None),), "row"))

    def test_default_of_a_number(self):
        for default in [None, *range(10)]:
            self.good(("visit", (("cost", "number", default),), "row"))
        for default in of_any_kind()[1:] + [-1, 10, 10 ** 60, "5", "ann"]:
            with self.subTest(default=repr(default)):
                self.bad(("visit", (("cost", "number", default),), "row"))

    def test_default_of_a_person_is_none_alone(self):
        self.good(("visit", (("who", "person", None),), "row"))
        for default in of_any_kind()[1:] + [0, 5, "ann", "a"]:
            with self.subTest(default=repr(default)):
                self.bad(("visit", (("who", "person", default),), "row"))

    def test_a_thing_too_many_or_too_few(self):
        self.bad(VISIT[:2])
        self.bad(VISIT[:1])
        self.bad(())
        self.bad(VISIT + ("row",))
        self.bad(VISIT + (None,))
        self.bad(("visit", (("who", "person"),), "row"))
        self.bad(("visit", (("who", "person", None, None),), "row"))
        self.bad(("visit", ((),), "row"))
        self.bad(("visit", WHO, "row"))
        self.bad(*VISIT)

    def test_lists_for_tuples(self):
        self.assertIs(are_tables([VISIT]), False)
        self.bad(list(VISIT))
        self.bad(("visit", [WHO, DAY], "row"))
        self.bad(("visit", (list(WHO), DAY), "row"))
        self.bad(("visit", (WHO, list(DAY)), "row"))

    def test_of_anything(self):
        for thing in of_any_kind() + ["visit", 0, 5, {"visit": VISIT}, {VISIT}]:
            with self.subTest(thing=repr(thing)):
                self.assertIs(are_tables(thing), False)
                self.bad(thing)
                self.bad(VISIT, thing)
                self.bad(("visit", thing, "row"))
                self.bad(("visit", (WHO, thing), "row"))

    def test_stays_as_it_was(self):
        thing = [["visit", [["who", "person", None]], "row"]]
        kept = copy.deepcopy(thing)
        self.assertIs(are_tables(thing), False)
        self.assertEqual(thing, kept)


class Rows(unittest.TestCase):
    def test_cells_for_the_first_columns(self):
        for row in (("ann", 3, 5), ("ann", 3), ("ann",), (None,), (None, None, None), ("abcdefgh", 0, 9)):
            self.assertIs(is_row(VISIT, row), True, row)

    def test_none_and_one_too_many(self):
        self.assertIs(is_row(VISIT, ()), False)
        self.assertIs(is_row(VISIT, ("ann", 3, 5, 1)), False)
        self.assertIs(is_row(VISIT, ("ann", 3, 5, None)), False)
        self.assertIs(is_row(("one", (DAY,), "row"), (3,)), True)
        self.assertIs(is_row(("one", (DAY,), "row"), (3, None)), False)

    def test_cells_of_the_other_kind(self):
        for row in ((3,), (3, 3), ("ann", "ann"), ("ann", 3, "bob"), (0, "ann", 5), ("5",), ("ann", "3")):
            self.assertIs(is_row(VISIT, row), False, row)

    def test_worths_alone_are_numbers_in_it(self):
        for worth in range(10):
            self.assertIs(is_row(VISIT, ("ann", worth)), True)
        for number in (-1, 10, 10 ** 60, True, False, 1.0):
            self.assertIs(is_row(VISIT, ("ann", number)), False, number)
            self.assertIs(is_row(VISIT, ("ann", 3, number)), False, number)

    def test_of_anything(self):
        for thing in of_any_kind() + ["ann", 0, ["ann", 3, 5], {"ann": 3}]:
            with self.subTest(thing=repr(thing)):
                self.assertIs(is_row(VISIT, thing), thing == (None,) and isinstance(thing, tuple))
                if thing is not None:
                    self.assertIs(is_row(VISIT, (thing,)), thing == "ann" and isinstance(thing, str))
                    self.assertIs(is_row(VISIT, (None, thing)), type(thing) is int)

    def test_read_with_all_columns(self):
        table = ("visit", (WHO, DAY, ("cost", "number", None), ("kind", "number", 7), ("by", "person", None)), "row")
        self.assertEqual(read_row(table, ("ann",)), ("ann", 0, None, 7, None))
        self.assertEqual(read_row(table, ("ann", None)), ("ann", None, None, 7, None))
        self.assertEqual(read_row(table, ("ann", 3, 5)), ("ann", 3, 5, 7, None))
        self.assertEqual(read_row(table, ("ann", 3, 5, None)), ("ann", 3, 5, None, None))
        self.assertEqual(read_row(table, ("ann", 3, 5, 1, "bob")), ("ann", 3, 5, 1, "bob"))
        self.assertIs(type(read_row(table, ("ann",))), tuple)

    def test_persons(self):
        self.assertEqual(persons_of(()), ())
        self.assertEqual(persons_of((None, 3)), ())
        self.assertEqual(persons_of(("bob", 3, "ann")), ("ann", "bob"))
        self.assertEqual(persons_of(("bob", "ann", None, "bob", 0, "ann")), ("ann", "bob"))
        self.assertEqual(persons_of(("c", "b", "a", "d")), ("a", "b", "c", "d"))
        self.assertIs(type(persons_of(("ann", "ann"))), tuple)

    def test_by_the_names_of_the_interface(self):
        self.assertIs(are_tables(thing=(VISIT,)), True)
        self.assertIs(is_row(thing=("ann",), table=VISIT), True)
        self.assertEqual(read_row(row=("ann",), table=VISIT), ("ann", 0, None))
        self.assertEqual(persons_of(row=("ann",)), ("ann",))


if __name__ == "__main__":
    unittest.main()
