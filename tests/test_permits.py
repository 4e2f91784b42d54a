import copy
import random
import unittest

from asnevertold.errors import NoMoment, NoPermission, NoPerson
from asnevertold.permits import Book
from things import Likes, of_any_kind

GOOD = ("cid", "care", "allow", 3, 5, 7)
FIRST = ("ann", "care", "allow", 0, None, 5)
SECOND = ("ann", "care", "withdraw", 4, 8, 6)
THIRD = ("bob", "ads", "allow", 2, 9, 7)
MORE_NUMBERS = [-1, 1000, 10 ** 60, 2.0, "3", "ann", True, False]


def told(*permissions):
    """A Book of these."""
    made = Book()
    for permission in permissions:
        made.put(permission)
    return made


def three():
    """A Book of three permissions."""
    return told(FIRST, SECOND, THIRD)


def put(permission, place, thing):
    """The permission with the thing at the place."""
    return permission[:place] + (thing,) + permission[place + 1:]


def some_permits(seed, many=10):
    """Permissions of a few persons and purposes, known never falling."""
    chance = random.Random(seed)
    made, known = [], 0
    for _ in range(many):
        known += chance.choice([0, 0, 1, 2])
        since = chance.randint(0, 9)
        till = chance.choice([None, since + chance.randint(1, 6)])
        person, purpose = chance.choice(["ann", "bob", "cid"]), chance.choice(["care", "ads"])
        made.append((person, purpose, chance.choice(["allow", "allow", "withdraw"]), since, till, known))
    return made


class Refusals(unittest.TestCase):
    def refused(self, word, permission, book=None):
        book = book or three()
        before, kept = book.permits(), book.twin()
        with self.assertRaises(NoPermission) as caught:
            book.put(permission)
        self.assertEqual(caught.exception.word, word, repr(permission))
        self.assertEqual((book.permits(), len(book)), (before, len(before)))
        self.assertEqual(book, kept)
        book.put(GOOD)
        self.assertEqual(book.permits(), before + [GOOD])

    def good(self, permission):
        book = three()
        self.assertIsNone(book.put(permission))
        self.assertEqual(book.permits(), [FIRST, SECOND, THIRD, permission])

    def test_of_anything(self):
        for thing in of_any_kind() + [0, "allow", list(GOOD), GOOD[:-1], GOOD + (None,), (GOOD,), {GOOD: 1}]:
            with self.subTest(thing=repr(thing)):
                self.refused("form", thing)

    def test_each_place_of_other_kinds(self):
        for place in range(6):
            for thing in of_any_kind() + ["Ann", "abcdefghi", ["cid"], ("cid",), -1, 1000]:
                with self.subTest(place=place, thing=repr(thing)):
                    if thing is None and place == 4 or isinstance(thing, str) and thing == "ann" and place < 2:
                        self.good(put(GOOD, place, thing))
                    else:
                        self.refused("form", put(GOOD, place, thing))

    def test_persons_and_purposes_are_any_names(self):
        for name in ("a", "abcdefgh", "allow", "withdraw"):
            self.good(put(GOOD, 0, name))
            self.good(put(GOOD, 1, name))

    def test_words(self):
        self.good(put(GOOD, 2, "withdraw"))
        for word in ("allows", "Allow", "", "deny", "care", None, ("allow",), ["allow"], True, 0, Likes()):
            self.refused("form", put(GOOD, 2, word))

    def test_moments(self):
        self.good(put(put(GOOD, 3, 0), 4, 1))
        self.good(put(put(GOOD, 3, 998), 4, 999))
        self.good(put(put(GOOD, 3, 999), 4, None))
        self.good(put(GOOD, 5, 999))
        for place in (3, 4, 5):
            for number in MORE_NUMBERS:
                self.refused("form", put(GOOD, place, number))
        self.refused("form", put(GOOD, 3, None))
        self.refused("form", put(GOOD, 5, None))
        for since, till in ((0, 0), (3, 3), (3, 2), (999, 0), (1, 0)):
            self.refused("form", put(put(GOOD, 3, since), 4, till))

    def test_known_never_falls_and_form_goes_ahead(self):
        for known in (0, 5, 6):
            self.refused("known", put(GOOD, 5, known))
            self.refused("form", put(put(GOOD, 5, known), 2, "deny"))
        for known in (7, 8):
            self.good(put(GOOD, 5, known))
        self.assertEqual(len(told(put(FIRST, 5, 0))), 1)


class Told(unittest.TestCase):
    def test_at_first(self):
        self.assertEqual((Book().permits(), len(Book())), ([], 0))
        self.assertIs(Book().allows("ann", "care", 0), False)

    def test_permits_and_length(self):
        self.assertEqual((three().permits(), len(three())), ([FIRST, SECOND, THIRD], 3))
        self.assertEqual(told(FIRST, FIRST).permits(), [FIRST, FIRST])

    def test_told_lists_are_new(self):
        book = three()
        book.permits().clear()
        self.assertEqual(book, three())

    def test_likeness(self):
        self.assertEqual(three(), three())
        self.assertEqual(Book(), Book())
        self.assertNotEqual(three(), told(FIRST, SECOND))
        same_moment = put(SECOND, 5, 5)
        self.assertNotEqual(told(FIRST, same_moment), told(same_moment, FIRST))
        self.assertEqual(three(), told(*copy.deepcopy([FIRST, SECOND, THIRD])))
        for thing in of_any_kind() + [[FIRST, SECOND, THIRD], 3, Likes()]:
            self.assertIs(three() == thing, False)
            self.assertIs(three() != thing, True)

    def test_twin_goes_on_by_itself(self):
        book = three()
        twin = book.twin()
        self.assertEqual(twin, book)
        twin.put(GOOD)
        self.assertEqual((len(twin), len(book)), (4, 3))
        self.assertIs(book.allows("cid", "care", 4), False)
        book.put(GOOD)
        self.assertEqual(twin, book)
        self.assertRaises(NoPermission, twin.put, put(GOOD, 5, 6))

    def test_by_the_names_of_the_interface(self):
        book = Book()
        book.put(permission=FIRST)
        self.assertIs(book.allows(person="ann", purpose="care", so=0, known=5), True)
        self.assertIs(book.lets_row(row=("ann", 3), purpose="care", so=0, known=5), True)
        self.assertEqual(book.without(persons=["ann"]), Book())
        with self.assertRaises(TypeError):
            book.allows("ann", "care", 0, 5)
        with self.assertRaises(TypeError):
            book.lets_row(("ann",), "care", 0, 5)


class Allows(unittest.TestCase):
    def test_the_last_that_was_let_in(self):
        book = three()
        self.assertEqual([book.allows("ann", "care", so) for so in (0, 3, 4, 7, 8, 999)],
                         [True, True, False, False, True, True])
        book.put(("ann", "care", "allow", 5, 6, 7))
        self.assertEqual([book.allows("ann", "care", so) for so in (4, 5, 6)], [False, True, False])

    def test_since_and_till(self):
        book = told(THIRD)
        self.assertEqual([book.allows("bob", "ads", so) for so in (0, 1, 2, 8, 9)], [False, False, True, True, False])

    def test_as_known(self):
        book = three()
        self.assertEqual([book.allows("ann", "care", 5, known=known) for known in (0, 4, 5, 6, 999, None)],
                         [False, False, True, False, False, False])

    def test_each_person_and_purpose_for_itself(self):
        book = three()
        self.assertEqual([book.allows(*asked, 3) for asked in (("ann", "ads"), ("bob", "care"), ("bob", "ads"))],
                         [False, False, True])
        self.assertIs(book.allows("dan", "care", 3), False)

    def test_what_is_no_name_allows_nothing(self):
        for thing in of_any_kind() + ["Ann", 0, ["ann"]]:
            if not (isinstance(thing, str) and thing == "ann"):
                self.assertIs(three().allows(thing, "care", 0), False)
            self.assertIs(three().allows("ann", thing, 0), False)
            self.assertIs(three().lets_row(("ann",), thing, 0), False)

    def test_rows(self):
        book = told(FIRST, ("bob", "care", "allow", 2, None, 6))
        self.assertEqual([book.lets_row(row, "care", 3) for row in (
            ("ann",), ("ann", 3, "bob"), ("ann", "ann"), ("ann", None), ("ann", "cid"), ("cid",))],
            [True, True, True, True, False, False])
        self.assertIs(book.lets_row(("ann", "bob"), "care", 1), False)
        self.assertIs(book.lets_row(("ann", "bob"), "care", 3, known=5), False)
        for row in ((), (None,), (0,), (None, 5, 9)):
            self.assertIs(book.lets_row(row, "ads", 0), True)
            self.assertIs(Book().lets_row(row, "ads", 0), True)

    def test_no_moment(self):
        book = three()
        for row in (("ann",), ()):
            for so in of_any_kind() + MORE_NUMBERS:
                for known in (None, 0, -1, True):
                    for ask in (lambda: book.allows("ann", "care", so, known=known),
                                lambda: book.lets_row(row, "care", so, known=known)):
                        with self.assertRaises(NoMoment) as caught:
                            ask()
                        self.assertIs(caught.exception.thing, so)
            for known in of_any_kind()[1:] + MORE_NUMBERS:
                for ask in (lambda: book.allows("ann", "care", 0, known=known),
                            lambda: book.lets_row(row, "care", 0, known=known)):
                    with self.assertRaises(NoMoment) as caught:
                        ask()
                    self.assertIs(caught.exception.thing, known)

    def test_one_by_one_as_the_point_tells(self):
        tried = 0
        for seed in range(60):
            permits = some_permits(seed)
            book = told(*permits)
            for known in (None, 0, 2, 5, 9):
                for so in range(0, 16, 2):
                    for person in ("ann", "bob", "cid"):
                        words = [word for who, what, word, since, till, then in permits
                                 if who == person and what == "care" and since <= so
                                 and (till is None or so < till) and (known is None or then <= known)]
                        wanted = words[-1:] == ["allow"]
                        self.assertIs(book.allows(person, "care", so, known=known), wanted)
                        self.assertIs(book.lets_row((4, person), "care", so, known=known), wanted)
                        tried += wanted
                    both = book.allows("ann", "care", so, known=known) and book.allows("bob", "care", so, known=known)
                    self.assertIs(book.lets_row(("bob", 0, "ann", None), "care", so, known=known), both)
        self.assertGreater(tried, 500)


class Without(unittest.TestCase):
    def test_theirs_go(self):
        self.assertEqual(three().without(["ann"]), told(THIRD))
        self.assertEqual(three().without(("bob",)), told(FIRST, SECOND))
        self.assertEqual(three().without(["bob", "ann"]), Book())
        for persons in ([], (), ["dan"], ["care"]):
            self.assertEqual(three().without(persons), three())

    def test_goes_on_by_itself(self):
        book = three()
        left = book.without(["bob"])
        left.put(put(GOOD, 5, 6))
        self.assertEqual((len(left), book), (3, three()))
        self.assertRaises(NoPermission, book.put, put(GOOD, 5, 6))

    def test_no_person(self):
        for thing in of_any_kind() + ["ann", 0, ["Ann"], ("ann", None), {"ann": 1}, [["ann"]], [True]]:
            if not (isinstance(thing, (list, tuple)) and all(one == "ann" for one in thing)):
                with self.subTest(thing=repr(thing)):
                    with self.assertRaises(NoPerson) as caught:
                        three().without(thing)
                    self.assertIs(caught.exception.thing, thing)

    def test_what_is_handed_in_stays(self):
        persons = ["bob", "ann"]
        three().without(persons)
        self.assertEqual(persons, ["bob", "ann"])

    def test_as_never_told(self):
        for seed in range(30):
            permits = some_permits(seed)
            left = told(*permits).without(["ann", "cid"])
            self.assertEqual(left, told(*[permission for permission in permits if permission[0] == "bob"]))
            self.assertEqual(left, told(*permits).without(["cid"]).without(["ann"]))


if __name__ == "__main__":
    unittest.main()
