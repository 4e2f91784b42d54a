import unittest

from asnevertold import errors
from things import of_any_kind

UNDER_HOUSE_ERROR = {
    "NoTables": (), "NoPlan": ("number",), "NoModel": (), "NoEntry": ("word",), "NoPermission": ("word",),
    "NoTurn": ("word",), "NoRows": (), "NoSum": (), "NoFewest": (), "NoText": ("row",), "NoRow": (),
}
BESIDE_IT = {
    "NoTable": (KeyError, ("name",)), "NoColumn": (KeyError, ("name",)), "NoKey": (KeyError, ("key",)),
    "NoPerson": (KeyError, ("thing",)), "NoMoment": (IndexError, ("thing",)),
    "NoNumber": (IndexError, ("thing",)), "Bare": (RuntimeError, ()), "Amid": (RuntimeError, ()),
    "Refused": (RuntimeError, ("combination",)),
}


def all_refusals():
    """Each refusal with the class straight above it and its fields."""
    told = {word: (errors.HouseError, fields) for word, fields in UNDER_HOUSE_ERROR.items()}
    told.update(BESIDE_IT)
    return [(getattr(errors, word), base, fields) for word, (base, fields) in told.items()]


class Fields(unittest.TestCase):
    def test_are_kept_just_so(self):
        for refusal, _, fields in all_refusals():
            for thing in of_any_kind():
                with self.subTest(refusal=refusal, thing=repr(thing)):
                    things = [thing for _ in fields]
                    for made in (refusal(*things), refusal(**dict(zip(fields, things)))):
                        self.assertEqual(sorted(vars(made)), sorted(fields))
                        for field in fields:
                            self.assertIs(getattr(made, field), thing)

    def test_are_not_changed(self):
        rows = [["ann"], {"a": [1]}]
        self.assertIs(errors.NoPerson(rows).thing, rows)
        self.assertEqual(rows, [["ann"], {"a": [1]}])

    def test_are_each_one_own(self):
        one, other = errors.NoPlan(1), errors.NoPlan(None)
        self.assertEqual((one.number, other.number), (1, None))

    def test_are_needed(self):
        for refusal, _, fields in all_refusals():
            with self.subTest(refusal=refusal):
                if fields:
                    self.assertRaises(TypeError, refusal)
                    self.assertRaises(TypeError, refusal, 1, 2)
                self.assertRaises(TypeError, refusal, other=1)


class Standing(unittest.TestCase):
    def test_house_error_stands_straight_under_value_error(self):
        self.assertEqual(errors.HouseError.__bases__, (ValueError,))

    def test_each_stands_straight_under_the_class_told(self):
        for refusal, base, _ in all_refusals():
            with self.subTest(refusal=refusal):
                self.assertEqual(refusal.__bases__, (base,))
                self.assertEqual(refusal.__module__, "asnevertold.errors")

    def test_none_stands_under_another_one(self):
        refusals = [refusal for refusal, _, _ in all_refusals()]
        for one in refusals:
            for other in refusals:
                self.assertEqual(issubclass(one, other), one is other)

    def test_those_beside_are_no_house_errors(self):
        for word in BESIDE_IT:
            self.assertFalse(issubclass(getattr(errors, word), errors.HouseError))

    def test_each_is_raised_and_caught_by_its_class_and_the_one_above(self):
        for refusal, base, fields in all_refusals():
            for caught in (refusal, base):
                with self.assertRaises(caught):
                    raise refusal(*fields)


if __name__ == "__main__":
    unittest.main()
