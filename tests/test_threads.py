import copy
import unittest

from asnevertold.deriving import derived, keys_of
from asnevertold.threads import hanging, lets_derived, turned, without_key
from things import MANY_NAMES, of_any_kind, some_stands, standing, thread, visits_and_stays

TABLES = visits_and_stays()
DEEP = (
    ("dear", ("keep", "visit", "cost", "least", 2)),
    ("beside", ("outer", "dear", "stay", "who", "guest")),
    ("sums", ("group", "beside", ("who",), "sum", "cost")),
    ("pairs", ("both", "visit", "dear")),
)
STANDS = {
    "visit": standing("visit", ("ann", 1, 5), ("bob", 0, 1), ("bob", 3, 4), ("ann", 4, 2)),
    "stay": standing("stay", ("ann", 7), ("ann", None)),
    "mark": standing("mark", (3,), (1,)),
}
WHOLE = derived(TABLES, DEEP, STANDS)
FOUND = {"visit": STANDS["visit"], "stay": STANDS["stay"]}


def v(number):
    """The thread of a visit."""
    return ("visit", ("s", number))


def s(number):
    """The thread of a stay."""
    return ("stay", ("s", number))


def put(things, place, thing):
    """The list or tuple with the thing at the place."""
    told = list(things)
    told[place] = thing
    return type(things)(told)


def without(things, place):
    """The list or tuple without what stands at the place."""
    told = list(things)
    del told[place]
    return type(things)(told)


def put_otherwise(thing):
    """Things that are not just this one, put otherwise at one place each, however deep."""
    if thing is None:
        return [0, False, "ann", ()]
    if isinstance(thing, str):
        return ["", thing + "x", None, 0, thing.encode(), (thing,)]
    if isinstance(thing, int):
        told = [thing + 1, -thing - 1, float(thing), str(thing), None, (thing,)]
        return told + ([bool(thing)] if thing in (0, 1) else [])
    told = [list(thing) if isinstance(thing, tuple) else tuple(thing), None, {}, thing * 2, thing + thing[:1]]
    told.append(thing[::-1])
    told.extend([without(thing, place) for place in range(len(thing))])
    told.extend([put(thing, place, other) for place in range(len(thing)) for other in put_otherwise(thing[place])])
    return [other for other in told if not is_same(other, thing)]


def is_same(one, other):
    """Whether both are the same of the same kinds: these show it."""
    return repr(one) == repr(other)


class Judge(unittest.TestCase):
    def lets(self, thing, truth):
        self.assertIs(lets_derived(TABLES, DEEP, STANDS, thing), truth)

    def refused_with(self, name, rows):
        told = dict(WHOLE)
        told[name] = rows
        self.lets(told, False)

    def test_what_is_derived_is_let_by(self):
        self.lets(WHOLE, True)
        self.lets({name: WHOLE[name] for name in sorted(WHOLE, reverse=True)}, True)
        self.lets(copy.deepcopy(WHOLE), True)
        for seed in range(40):
            stands = some_stands(seed)
            self.assertIs(lets_derived(TABLES, MANY_NAMES, stands, derived(TABLES, MANY_NAMES, stands)), True)

    def test_of_no_rows_and_no_plan(self):
        none = {"visit": [], "stay": [], "mark": []}
        self.assertIs(lets_derived(TABLES, (), none, none), True)
        self.assertIs(lets_derived(TABLES, DEEP, none, derived(TABLES, DEEP, none)), True)
        self.assertIs(lets_derived(TABLES, DEEP, none, WHOLE), False)
        self.lets(derived(TABLES, DEEP, none), False)

    def test_each_thing_put_otherwise(self):
        tried = 0
        for name, rows in WHOLE.items():
            for other in put_otherwise(rows):
                self.refused_with(name, other)
                tried += 1
        self.assertGreater(tried, 2000)

    def test_rows_exchanged_twice_or_in_another_order(self):
        for name, rows in WHOLE.items():
            for one in range(len(rows)):
                for other in range(one):
                    self.refused_with(name, put(put(rows, one, rows[other]), other, rows[one]))
                    self.refused_with(name, put(rows, one, rows[other]))
                    if rows[one][1] != rows[other][1]:
                        self.refused_with(name, put(put(rows, one, (rows[one][0], rows[other][1])), other,
                                                    (rows[other][0], rows[one][1])))

    def test_a_name_more_or_fewer(self):
        for name in WHOLE:
            self.lets({other: WHOLE[other] for other in WHOLE if other != name}, False)
            called = {other + "x" if other == name else other: WHOLE[other] for other in WHOLE}
            self.lets(called, False)
        for name in ("more", "", None, 0, ("visit",)):
            self.lets({**WHOLE, name: []}, False)
        self.lets({}, False)
        self.assertIs(lets_derived(TABLES, (), {name: [] for name in FOUND | {"mark": 0}}, {}), False)

    def test_a_lower_and_an_upper_name_put_otherwise_at_once(self):
        stands = {**STANDS, "visit": standing("visit", ("ann", 1, 6), *[row for _, row in STANDS["visit"][1:]])}
        other = derived(TABLES, DEEP, stands)
        self.lets(other, False)
        self.lets({**other, "visit": WHOLE["visit"]}, False)
        self.lets({**WHOLE, "dear": other["dear"], "beside": other["beside"], "sums": other["sums"]}, False)
        self.lets({**WHOLE, "beside": other["beside"], "sums": other["sums"]}, False)
        self.lets({**WHOLE, "sums": other["sums"]}, False)
        self.assertIs(lets_derived(TABLES, DEEP, stands, other), True)
        self.assertIs(lets_derived(TABLES, DEEP, stands, WHOLE), False)

    def test_of_each_other_stands(self):
        for seed in range(10):
            for more in range(seed):
                one, other = some_stands(seed), some_stands(more)
                if one != other:
                    self.assertIs(lets_derived(TABLES, MANY_NAMES, one, derived(TABLES, MANY_NAMES, other)), False)

    def test_of_anything(self):
        for thing in of_any_kind() + [0, "visit", list(WHOLE), list(WHOLE.items()), tuple(WHOLE)]:
            with self.subTest(thing=repr(thing)):
                self.lets(thing, False)
                for name in WHOLE:
                    self.refused_with(name, thing)
                    self.refused_with(name, [thing])
                    self.refused_with(name, [(thing, row) for _, row in WHOLE[name]])
                    self.refused_with(name, [(found, thing) for found, _ in WHOLE[name]])

    def test_nothing_is_changed(self):
        stands, thing = copy.deepcopy(STANDS), copy.deepcopy(WHOLE)
        lets_derived(TABLES, DEEP, stands, thing)
        self.assertEqual((stands, thing), (STANDS, WHOLE))
        del thing["sums"][0]
        kept = copy.deepcopy(thing)
        self.assertIs(lets_derived(TABLES, DEEP, stands, thing), False)
        self.assertEqual((stands, thing), (STANDS, kept))

    def test_by_the_names_of_the_interface(self):
        self.assertIs(lets_derived(thing=WHOLE, stands=STANDS, plan=DEEP, tables=TABLES), True)


class Turned(unittest.TestCase):
    def test_alike_ones(self):
        self.assertEqual(turned(WHOLE, copy.deepcopy(WHOLE)), {})
        self.assertEqual(turned({}, {}), {})

    def test_rows_that_go_come_and_are_put_otherwise(self):
        one = {"visit": [(v(0), ("ann", 1)), (v(1), ("bob", 2)), (v(2), ("cid", None))], "stay": [(s(0), (1,))]}
        other = {"stay": [(s(0), (1,))], "visit": [(v(1), ("bob", None)), (v(2), ("cid", None)), (v(10), ("dan", 0))]}
        goes, comes = [(v(0), ("ann", 1)), (v(1), ("bob", 2))], [(v(1), ("bob", None)), (v(10), ("dan", 0))]
        self.assertEqual(turned(one, other), {"visit": (goes, comes)})
        self.assertEqual(turned(other, one), {"visit": (comes, goes)})

    def test_of_names_alone_that_turn(self):
        less = derived(TABLES, DEEP, {**STANDS, "mark": []})
        self.assertEqual(turned(WHOLE, less), {"mark": (STANDS["mark"], [])})
        self.assertEqual(turned(less, WHOLE), {"mark": ([], STANDS["mark"])})

    def test_told_is_new(self):
        one, other = copy.deepcopy(WHOLE), derived(TABLES, DEEP, {**STANDS, "stay": []})
        told = turned(one, other)
        kept = copy.deepcopy(told)
        for goes, comes in told.values():
            goes.clear()
            comes.clear()
        told.clear()
        self.assertEqual(one, WHOLE)
        self.assertEqual(turned(one, other), kept)

    def test_nothing_hangs_on_the_order_of_names(self):
        other = derived(TABLES, DEEP, {**STANDS, "stay": []})
        backward = {name: WHOLE[name] for name in reversed(WHOLE)}
        self.assertEqual(repr(turned(WHOLE, other)), repr(turned(backward, other)))

    def test_by_the_names_of_the_interface(self):
        self.assertEqual(turned(other=WHOLE, one=WHOLE), {})


class Hanging(unittest.TestCase):
    def test_on_a_key_that_stands(self):
        dear = thread("dear", v(0))
        beside = [thread("beside", dear, s(0)), thread("beside", dear, s(1))]
        group = WHOLE["sums"][0][0]
        self.assertEqual(hanging({name: WHOLE[name] for name in ("visit", "dear", "beside", "sums", "pairs", "mark")},
                                 ("s", 0)), [
            ("beside", beside[0]), ("beside", beside[1]), ("beside", thread("beside", thread("dear", v(3)), s(0))),
            ("dear", dear), ("mark", ("mark", ("s", 0))), ("pairs", thread("pairs", dear)),
            ("pairs", thread("pairs", v(0))), ("sums", group), ("visit", v(0)),
        ])

    def test_on_keys_that_do_not_stand(self):
        for key in (("s", 4), ("t", 0), ("visit", 0)):
            self.assertEqual(hanging(WHOLE, key), [])

    def test_on_what_is_no_key(self):
        for thing in of_any_kind() + [("s", True), ("s", False), ["s", 1], ("s", 1.0), ("s", 1, 1), "s", v(0)]:
            with self.subTest(thing=repr(thing)):
                self.assertEqual(hanging(WHOLE, thing), [])

    def test_is_what_has_the_key(self):
        for seed in range(10):
            lists = derived(TABLES, MANY_NAMES, some_stands(seed))
            for number in range(7):
                wanted = [(name, pair[0]) for name in sorted(lists) for pair in lists[name]
                          if ("s", number) in keys_of(pair[0])]
                self.assertEqual(hanging(lists, ("s", number)), wanted)

    def test_by_the_names_of_the_interface(self):
        self.assertEqual(hanging(key=("s", 9), derived=WHOLE), [])


class WithoutKey(unittest.TestCase):
    PLAN = (
        ("alone", ("outer", "visit", "stay", "who", "guest")),
        ("low", ("group", "visit", ("who",), "least", "cost")),
        ("early", ("first", "visit", ("who",), "day")),
        ("two", ("window", "visit", ("who",), "day", 2, "cost")),
        ("kept", ("keep", "stay", "night", "least", 0)),
        ("met", ("join", "visit", "stay", "who", "guest")),
    )
    STANDS = {
        "visit": [(("visit", ("a", number)), row) for number, row in
                  enumerate([("ann", 1, 5), ("ann", 2, 3), ("ann", 3, 4), ("bob", 1, 1)])],
        "stay": [(("stay", ("b", 0)), ("ann", 7)), (("stay", ("b", 1)), ("bob", 2))],
        "mark": [],
    }

    def told(self, key):
        return without_key(TABLES, self.PLAN, self.STANDS, key)

    def test_an_outer_one_comes_in_its_lacking_form(self):
        bob, stay = ("visit", ("a", 3)), ("stay", ("b", 1))
        self.assertEqual(self.told(("b", 1)), {
            "stay": ([(stay, ("bob", 2))], []),
            "kept": ([(thread("kept", stay), ("bob", 2))], []),
            "met": ([(thread("met", bob, stay), ("bob", 1, 1, 2))], []),
            "alone": ([(thread("alone", bob, stay), ("bob", 1, 1, 2))],
                      [(thread("alone", bob), ("bob", 1, 1, None))]),
        })

    def test_a_groups_least_is_the_next_a_firsts_the_next(self):
        ann = [("visit", ("a", number)) for number in range(3)]
        told = self.told(("a", 1))
        self.assertEqual(told["low"], ([(thread("low", *ann), ("ann", 3))],
                                       [(thread("low", ann[0], ann[2]), ("ann", 4))]))
        self.assertNotIn("early", told)
        self.assertEqual(told["two"], (
            [(thread("two", ann[1], ann[0]), ("ann", 2, 3, 8)), (thread("two", ann[2], ann[1]), ("ann", 3, 4, 7))],
            [(thread("two", ann[2], ann[0]), ("ann", 3, 4, 9))]))
        self.assertEqual(self.told(("a", 0))["early"], ([(thread("early", ann[0]), ("ann", 1, 5))],
                                                        [(thread("early", ann[1]), ("ann", 2, 3))]))

    def test_the_last_of_a_lot(self):
        bob = ("visit", ("a", 3))
        told = self.told(("a", 3))
        self.assertEqual(sorted(told), ["alone", "early", "low", "met", "two", "visit"])
        self.assertEqual(told["low"], ([(thread("low", bob), ("bob", 1))], []))
        self.assertEqual(told["visit"], ([(bob, ("bob", 1, 1))], []))

    def test_keys_that_do_not_stand(self):
        for key in [("a", 4), ("c", 0), ("a", True), ["a", 1], ("a", False), None, "a", ()]:
            self.assertEqual(self.told(key), {})

    def test_is_what_turns_where_the_row_is_left_out(self):
        for seed in range(25):
            stands = some_stands(seed)
            for number in range(7):
                left = {name: [pair for pair in rows if pair[0][1] != ("s", number)] for name, rows in stands.items()}
                wanted = turned(derived(TABLES, MANY_NAMES, stands), derived(TABLES, MANY_NAMES, left))
                self.assertEqual(without_key(TABLES, MANY_NAMES, stands, ("s", number)), wanted)

    def test_what_goes_hangs_on_the_key(self):
        for seed in range(25):
            stands = some_stands(seed)
            hung = hanging(derived(TABLES, MANY_NAMES, stands), ("s", 0))
            goes = [(name, pair[0]) for name, (goes, _) in without_key(TABLES, MANY_NAMES, stands, ("s", 0)).items()
                    for pair in goes]
            self.assertEqual(sorted(goes), hung)

    def test_nothing_is_changed(self):
        stands = copy.deepcopy(self.STANDS)
        without_key(TABLES, self.PLAN, stands, ("a", 0))
        self.assertEqual(stands, self.STANDS)

    def test_by_the_names_of_the_interface(self):
        self.assertEqual(without_key(key=("a", 9), stands=STANDS, plan=DEEP, tables=TABLES), {})


if __name__ == "__main__":
    unittest.main()
