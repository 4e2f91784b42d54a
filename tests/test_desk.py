import unittest

from asnevertold.desk import Desk
from asnevertold.errors import (NoColumn, NoEntry, NoFewest, NoModel, NoMoment, NoNumber, NoPermission, NoPerson, NoPlan,
                                NoRow, NoSum, NoTable, NoTables, NoText, Refused)
from asnevertold.house import House
from asnevertold.texts import show_entries, show_permits, show_rows
from drawn import MODELS, PLAN, TABLES, do, drawn
from things import of_any_kind

ROWS = (
    ("tell s.0 visit ann,1,5 0 - 2 - -", "ok"),
    ("tell s.1 visit bob,2,3 0 9 2 - -", "ok"),
    ("tell s.2 stay ann,bob,3 0 - 3 - s.0", "ok"),
    ("allow ann care allow 0 - 3", "ok"),
    ("allow bob ads allow 0 - 3", "ok"),
    ("serve eve care visit 4", "0"),
    ("serve eve ads dear 4", "1"),
    ("serve eve none stay 4", "2"),
    ("copy 4", "0"),
    ("copy 5", "1"),
    ("export stay 5", "0"),
    ("sum visit cost 5", "8"),
    ("sum less rest 5", "5"),
    ("answer 0", "visit.s.0 ann,1,5"),
    ("answer 1", "dear(visit.s.1) bob,2,3"),
    ("answer 2", "-"),
    ("copied 0 visit", "visit.s.0 ann,1,5; visit.s.1 bob,2,3"),
    ("copied 1 most", "most(stay.s.2) 3"),
    ("copied 1 mark", "-"),
    ("table runs 9", "runs(less(visit.s.0)) ann,1,5,4,4"),
    ("table visit 8", "visit.s.0 ann,1,5; visit.s.1 bob,2,3"),
    ("table mark 0", "-"),
    ("shown ann 5", "12"),
    ("shown eve 5", "0"),
)


def desk(many=len(ROWS)):
    """A desk to which this many of the rows were said."""
    made = Desk(TABLES, PLAN, models=MODELS)
    for row, _ in ROWS[:many]:
        made.say(row)
    return made


class Said(unittest.TestCase):
    def test_row_by_row(self):
        made = Desk(TABLES, PLAN, models=MODELS)
        self.assertEqual(len(made), 0)
        for number, (row, told) in enumerate(ROWS):
            self.assertEqual(made.say(row), told, row)
            self.assertEqual(len(made), number + 1)

    def test_forget(self):
        made = desk()
        house = House(TABLES, PLAN, models=MODELS)
        house.tell((("s", 0), "visit", ("ann", 1, 5), 0, None, 2, None, None))
        house.tell((("s", 1), "visit", ("bob", 2, 3), 0, 9, 2, None, None))
        house.tell((("s", 2), "stay", ("ann", "bob", 3), 0, None, 3, None, ("s", 0)))
        house.allow(("ann", "care", "allow", 0, None, 3))
        house.allow(("bob", "ads", "allow", 0, None, 3))
        for deed, *told in (("serve", "eve", "care", "visit", 4), ("serve", "eve", "ads", "dear", 4),
                            ("serve", "eve", "none", "stay", 4), ("copy", 4), ("copy", 5), ("export", "stay", 5),
                            ("publish", "visit", "cost", 5), ("publish", "less", "rest", 5)):
            do(house, deed, told)
        gone, lacking, remade, _ = house.forget("bob")
        self.assertEqual((len(gone), len(lacking)), (1, 1))
        self.assertEqual(made.say("forget bob"), f"1 1 {len(remade)} {len(house.otherwise())}")
        gone, lacking, remade, _ = house.forget("ann")
        # What one caused goes with it.
        self.assertEqual((len(gone), len(lacking)), (2, 0))
        self.assertEqual(made.say("forget ann"), f"2 0 {len(remade)} {len(house.otherwise())}")
        self.assertEqual(house.otherwise(), [("answer", 0), ("answer", 1), ("sum", 0), ("sum", 1)])
        self.assertEqual(made.say("forget ann"), "0 0 0 4")
        self.assertEqual([made.say(row) for row in ("answer 0", "copied 0 visit", "table visit 5")], ["-", "-", "-"])

    def test_below_nought(self):
        made = Desk(TABLES, PLAN)
        made.say("tell s.0 visit ann,5,1 0 - 0 - -")
        self.assertEqual(made.say("sum less rest 0"), "-4")
        self.assertEqual(made.say("table less 0"), "less(visit.s.0) ann,5,1,-4")

    def test_all_rows_without_persons_and_taken_back(self):
        made = Desk(TABLES, PLAN)
        for row in ("tell s.0 mark 5 0 - 0 - -", "tell s.1 mark -,- 0 1 0 - -", "tell s.2 mark ! 0 - 1 s.0 -"):
            self.assertEqual(made.say(row), "ok")
        self.assertEqual(made.say("table mark 0"), "mark.s.1 -,-")
        self.assertEqual(made.say("table mark 1"), "-")

    def test_as_a_house_does(self):
        for seed in range(25):
            house, _, _ = drawn(seed, 0)
            _, done, _ = drawn(seed, 20, fewest=1)
            made = Desk(TABLES, PLAN, models=MODELS)
            house = House(TABLES, PLAN, models=MODELS)
            for deed, told in done:
                do(house, deed, told)
                if deed == "tell":
                    row = "tell " + show_entries(list(told))
                elif deed == "allow":
                    row = "allow " + show_permits(list(told))
                else:
                    row = " ".join([{"publish": "sum"}.get(deed, deed), *map(str, told)])
                made.say(row)
            answers = sum(deed == "serve" for deed, _ in done)
            for forgotten in ("", "ann", "bob"):
                if forgotten:
                    gone, lacking, remade, _ = house.forget(forgotten)
                    self.assertEqual(made.say(f"forget {forgotten}"), " ".join(
                        map(str, (len(gone), len(lacking), len(remade), len(house.otherwise())))))
                for number in range(answers):
                    self.assertEqual(made.say(f"answer {number}"), self.text(house.answer(number)[4]))
                for name in ("visit", "beside", "runs"):
                    self.assertEqual(made.say(f"table {name} 5"), self.text(house.table(name, 5)))
                    if sum(deed == "copy" for deed, _ in done):
                        self.assertEqual(made.say(f"copied 0 {name}"), self.text(house.copied(0)[1][name]))
                self.assertEqual(made.say("shown bob 4"), str(len(house.shown("bob", 4))))

    def text(self, rows):
        """The rows as a desk tells them."""
        return show_rows(rows).replace("\n", "; ") if rows else "-"


class Refusals(unittest.TestCase):
    def refused(self, refusal, said, made=None, **fields):
        made = made or desk()
        many = len(made)
        with self.assertRaises(refusal, msg=repr(said)) as caught:
            made.say(said)
        for field, worth in fields.items():
            found = getattr(caught.exception, field)
            self.assertEqual((found, type(found)), (worth, type(worth)), said)
        self.assertEqual(len(made), many)

    def test_no_row_of_anything(self):
        for thing in of_any_kind() + [0, ["copy 5"], ("copy 5",), b"copy 5", "", " ", "\n"]:
            with self.subTest(thing=repr(thing)):
                self.refused(NoRow, thing)

    def test_no_row_by_its_first_word_and_how_many_words_it_has(self):
        made = desk()
        for row, _ in ROWS + (("forget ann", ""),):
            words = row.split(" ")
            for other in (words[:-1], words + ["5"], words + ["-"], ["Tell", *words[1:]], ["tel", *words[1:]],
                          [words[0].upper(), *words[1:]], words[1:], [words[0]], [words[0] + "s", *words[1:]],
                          [words[0] + "\t", *words[1:]]):
                self.refused(NoRow, " ".join(other), made)
            for other in (" " + row, row + " ", row.replace(" ", "  ", 1), row + "\n", "\n" + row, row + "\ncopy 9",
                          row.replace(" ", "\t", 1), row.replace(" ", "\n", 1), "  ".join(words)):
                self.refused(NoRow, other, made)

    def test_no_row_of_what_is_no_number(self):
        made = desk()
        for row in ("serve eve care visit {}", "copy {}", "export stay {}", "sum visit cost {}", "answer {}",
                    "copied {} visit", "table visit {}", "shown ann {}", "serve Eve care none {}", "export none {}",
                    "sum none none {}", "copied {} none", "table none {}", "shown Ann {}"):
            for word in ("x", "-", "-1", "+1", "05", "00", "10000", "5.0", "1e2", "0x1", "five", "5,", "\t5", "1_0"):
                self.refused(NoRow, row.format(word), made)

    def test_no_text_ahead_of_what_the_house_refuses(self):
        for row in ("s.0 visit ann 0 - 9 - 5", "S.9 visit ann 0 - 9 - -", "s.9 visit ann,Bob 0 - 9 - -", "s9 visit ann 0 - 9 - -",
                    "s.9 visit ann -1 - 9 - -", "s.9 visit ann 0 - x - -", "s.9 visit ann 0 - 9 s s", "s.9 visit ann, 0 - 9 - -",
                    "s.9 visit ann 0 -- 9 - -", "s.9 Visit ann 0 - 9 - -", "s.09 visit ann 0 - 9 - -"):
            self.refused(NoText, "tell " + row, row=0)
        for row in ("Ann care allow 0 - 9", "ann care allow x - 9", "ann care allow 0 x 9", "ann care allow 0 - -",
                    "ann Care allow 0 - 9", "ann care 5 0 - 9", "ann care allow 00 - 9"):
            self.refused(NoText, "allow " + row, row=0)

    def test_as_the_points_refuse(self):
        self.refused(NoEntry, "tell s.9 none ann 0 - 9 - -", word="table")
        self.refused(NoEntry, "tell s.9 visit 5 0 - 9 - -", word="row")
        self.refused(NoEntry, "tell s.9 visit ann 0 - 1000 - -", word="form")
        self.refused(NoEntry, "tell s.9 visit ! 0 - 9 - -", word="form")
        self.refused(NoEntry, "tell s.0 visit ann 0 - 9 - -", word="key")
        self.refused(NoEntry, "tell s.9 visit ann 0 - 5 - -", word="known")
        self.refused(NoEntry, "tell s.9 visit ann 0 - 6 s.2 -", word="rights")
        self.refused(NoEntry, "tell s.9 visit ann 0 - 6 - s.7", word="cause")
        self.refused(NoPermission, "allow ann care deny 0 - 9", word="form")
        self.refused(NoPermission, "allow ann care allow 0 - 5", word="known")
        self.refused(NoPerson, "serve Eve care visit 5", thing="Eve")
        self.refused(NoPerson, "serve 5 care visit 5", thing="5")
        self.refused(NoPerson, "serve eve 5 visit 5", thing="5")
        self.refused(NoTable, "serve eve care 5 4", name="5")
        self.refused(NoTable, "export none 4", name="none")
        self.refused(NoTable, "table 5 1000", name="5")
        self.refused(NoTable, "sum none cost 4", name="none")
        self.refused(NoColumn, "sum visit 5 4", name="5")
        self.refused(NoSum, "sum visit who 4")
        self.refused(NoPerson, "forget Ann", thing="Ann")
        self.refused(NoPerson, "forget 5", thing="5")
        self.refused(NoPerson, "shown 5 1000", thing="5")
        # A moment, or a number, is the whole one.
        for row in ("serve eve care visit {}", "copy {}", "export stay {}", "sum visit cost {}"):
            for moment in (0, 4, 1000, 9999):
                self.refused(NoMoment, row.format(moment), thing=moment)
        for row in ("table visit {}", "shown ann {}"):
            for moment in (1000, 9999):
                self.refused(NoMoment, row.format(moment), thing=moment)
        self.refused(NoNumber, "answer 3", thing=3)
        self.refused(NoNumber, "copied 2 none", thing=2)
        self.refused(NoTable, "copied 1 none", name="none")
        self.refused(NoTable, "copied 1 shares", name="shares")

    def test_refused_sums(self):
        made = Desk(TABLES, PLAN, fewest=3)
        for row, _ in ROWS[:3]:
            made.say(row)
        self.refused(Refused, "sum visit cost 5", made, combination=[(1, 1)])
        self.assertEqual(made.say("tell s.9 visit cid,0,1 0 - 3 - -"), "ok")
        self.assertEqual(made.say("sum visit cost 5"), "9")

    def test_what_is_refused_changes_nothing(self):
        made, other = desk(), desk()
        for row in ("copy 4", "serve Eve care visit 5", "tell s.0 visit ann 0 - 9 - -", "answer 9", "table none 5"):
            with self.assertRaises(Exception):
                made.say(row)
        for row in ("copy 5", "serve eve care visit 5", "forget ann", "answer 0", "copied 0 visit", "shown bob 3"):
            self.assertEqual(made.say(row), other.say(row))
        self.assertEqual(len(made), len(other))

    def test_made_of(self):
        self.assertRaises(NoTables, Desk, list(TABLES), PLAN)
        self.assertRaises(NoPlan, Desk, TABLES, list(PLAN))
        self.assertRaises(NoModel, Desk, TABLES, PLAN, models=())
        self.assertRaises(NoFewest, Desk, TABLES, PLAN, fewest=5)
        self.assertRaises(TypeError, Desk, TABLES, PLAN, MODELS)
        self.assertEqual(Desk(tables=TABLES, plan=(), models=None, fewest=4).say(row="copy 0"), "0")


if __name__ == "__main__":
    unittest.main()
