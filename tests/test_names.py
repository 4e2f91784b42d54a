import unittest

from asnevertold.names import is_moment, is_name, is_worth
from things import of_any_kind


class Names(unittest.TestCase):
    def test_one_to_eight_small_letters(self):
        for name in ("a", "z", "ann", "abcdefgh", "ijklmnop", "qrstuvwx", "yz", "zzzzzzzz"):
            self.assertIs(is_name(name), True, name)

    def test_none_and_nine_letters(self):
        for text in ("", "abcdefghi", "a" * 20000):
            self.assertIs(is_name(text), False)

    def test_other_signs(self):
        for sign in "AZ019 _-.,;:!`{~@[/\t\n":
            for text in (sign, sign + "ann", "ann" + sign, "a" + sign + "n"):
                self.assertIs(is_name(text), False, repr(text))

    def test_letters_of_other_scripts(self):
        for text in ("\u00e9", "\u00df", "\u03b1", "\u0430nn", "\uff41", "\u00aa", "a\u0301"):
            self.assertIs(is_name(text), False, ascii(text))


class WholeNumbers(unittest.TestCase):
    def test_worths_are_0_to_9(self):
        for worth in range(10):
            self.assertIs(is_worth(worth), True)
        for number in (-1, 10, -9, 99, 10 ** 60, -10 ** 60):
            self.assertIs(is_worth(number), False)

    def test_moments_are_0_to_999(self):
        for moment in range(1000):
            self.assertIs(is_moment(moment), True)
        for number in (-1, 1000, -999, 9999, 10 ** 60, -10 ** 60):
            self.assertIs(is_moment(number), False)

    def test_truths_and_numbers_with_a_point_are_none(self):
        for thing in (True, False, 0.0, 1.0, 9.0, "0", "5"):
            for asked in (is_worth, is_moment):
                self.assertIs(asked(thing), False, repr(thing))


class OfAnything(unittest.TestCase):
    def test_things_of_other_kinds_are_none(self):
        for thing in of_any_kind():
            for asked in (is_name, is_worth, is_moment):
                with self.subTest(asked=asked, thing=repr(thing)):
                    self.assertIs(asked(thing), False)

    def test_names_are_no_numbers_and_numbers_no_names(self):
        self.assertEqual([is_worth("a"), is_moment("a"), is_name(0), is_name(5)], [False] * 4)

    def test_stays_as_it_was(self):
        things = [["ann"], {"ann": [1]}]
        for thing in things:
            self.assertEqual([is_name(thing), is_worth(thing), is_moment(thing)], [False] * 3)
        self.assertEqual(things, [["ann"], {"ann": [1]}])

    def test_by_the_names_of_the_interface(self):
        self.assertEqual([is_name(thing="ann"), is_worth(thing=9), is_moment(thing=999)], [True] * 3)


if __name__ == "__main__":
    unittest.main()
