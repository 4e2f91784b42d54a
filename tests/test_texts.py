import copy
import itertools
import unittest

from asnevertold.deriving import derived
from asnevertold.errors import NoEntry, NoText
from asnevertold.history import History
from asnevertold.texts import read_entries, read_permits, show_entries, show_permits, show_rows
from things import MANY_NAMES, Likes, of_any_kind, some_entries, some_stands, thread, two_to_a_stay, visits_and_stays

V, S = ("visit", ("desk", 0)), ("stay", ("b", 9999))
ENTRIES = [
    (("desk", 0), "visit", ("ann", 3, None), 0, None, 5, None, None),
    (("b", 9999), "stay", (None,), 12, 999, 5, ("desk", 0), ("desk", 0)),
    (("desk", 1), "visit", None, 7, 8, 100, ("desk", 0), ("b", 9999)),
    (("c", 10), "mark", (None, "bob", 0, 9, None), 1, 2, 3, None, ("c", 1)),
]
ENTRY_TEXT = ("desk.0 visit ann,3,- 0 - 5 - -\n"
              "b.9999 stay - 12 999 5 desk.0 desk.0\n"
              "desk.1 visit ! 7 8 100 desk.0 b.9999\n"
              "c.10 mark -,bob,0,9,- 1 2 3 - c.1")
PERMITS = [
    ("ann", "care", "allow", 0, None, 5), ("bob", "sums", "withdraw", 12, 999, 100),
    ("ann", "care", "perhaps", 3, 4, 0),
]
PERMIT_TEXT = "ann care allow 0 - 5\nbob sums withdraw 12 999 100\nann care perhaps 3 4 0"
NO_NUMBERS = ["", "-", "00", "01", "007", "10000", "12345", "-1", "+1", "1.0", "1e2", "x", "1x", "x1", "1_0", "\u0661",
              "\u00b2", "0x1", "1,2", "\t1", "1\t", "!", ".", "None"]
NO_NAMES = ["", "-", "Ann", "anN", "ann1", "an-n", "abcdefghi", "5", "a.b", "\u00e9", "ann\t", "\tann", "!", ",", "a,b"]
NO_KEYS = ["", ".", "desk", "desk.", ".1", "desk.1.2", "desk..1", "Desk.1", "desk.01", "desk.00", "desk.10000",
           "desk.-1", "desk.+1", "desk.x", "1.desk", "desk,1", "desk.1,", "!", "abcdefghi.1", "desk.\u0661", "5"]
NO_CELLS = ["", ",", "ann,", ",ann", "ann,,3", "!,3", "3,!", "Ann", "ann,01", "ann,-1", "10000", "ann;3", "abcdefghi",
            "ann,+3", "--", "!!", "ann.3", "-,", "\u0661"]


class Rows(unittest.TestCase):
    def test_of_tables(self):
        self.assertEqual(show_rows([(V, ("ann", 3, None))]), "visit.desk.0 ann,3,-")
        self.assertEqual(show_rows([(V, (None,)), (S, (0,))]), "visit.desk.0 -\nstay.b.9999 0")

    def test_of_derived_names(self):
        one, two = thread("dear", V), thread("met", thread("dear", V), S)
        self.assertEqual(show_rows([(one, ("ann", -12))]), "dear(visit.desk.0) ann,-12")
        self.assertEqual(show_rows([(two, ("ann", -1, None, 10 ** 20))]),
                         "met(dear(visit.desk.0),stay.b.9999) ann,-1,-,100000000000000000000")
        self.assertEqual(show_rows([(thread("all", two, one), (0,)), (one, (None, None))]),
                         "all(met(dear(visit.desk.0),stay.b.9999),dear(visit.desk.0)) 0\ndear(visit.desk.0) -,-")

    def test_of_none(self):
        self.assertEqual(show_rows([]), "")

    def test_a_row_for_each(self):
        tables = visits_and_stays()
        for seed in range(12):
            for name, rows in derived(tables, MANY_NAMES, some_stands(seed)).items():
                text = show_rows(rows)
                self.assertEqual(len(text.split("\n")) if text else 0, len(rows))
                for line, (found, row) in zip(text.split("\n"), rows):
                    shown, cells = line.split(" ")
                    self.assertEqual(show_rows([(found, row)]), line)
                    self.assertTrue(shown.startswith(name))
                    self.assertEqual(cells, ",".join(["-" if cell is None else str(cell) for cell in row]))
                    self.assertEqual(shown.count("("), shown.count(")"))


class Shown(unittest.TestCase):
    def test_entries(self):
        self.assertEqual(show_entries(ENTRIES), ENTRY_TEXT)
        self.assertEqual(show_entries([]), "")
        self.assertEqual(show_entries(ENTRIES[:1]), ENTRY_TEXT.split("\n")[0])

    def test_permits(self):
        self.assertEqual(show_permits(PERMITS), PERMIT_TEXT)
        self.assertEqual(show_permits([]), "")
        self.assertEqual(show_permits(PERMITS[1:2]), PERMIT_TEXT.split("\n")[1])


class ThereAndBack(unittest.TestCase):
    def test_by_hand(self):
        self.assertEqual(read_entries(ENTRY_TEXT), ENTRIES)
        self.assertEqual(read_permits(PERMIT_TEXT), PERMITS)
        for text in ("", ENTRY_TEXT):
            self.assertEqual(show_entries(read_entries(text)), text)
        for text in ("", PERMIT_TEXT):
            self.assertEqual(show_permits(read_permits(text)), text)

    def test_of_none(self):
        self.assertEqual((read_entries(""), read_permits("")), ([], []))

    def test_histories(self):
        for seed in range(30):
            history = History(two_to_a_stay())
            for entry in some_entries(seed):
                history.put(entry)
            text = show_entries(history.entries())
            again = History(two_to_a_stay())
            for entry in read_entries(text):
                again.put(entry)
            self.assertEqual(again, history)

    def test_moments_above_999_and_a_till_below_since(self):
        for since, till, known in itertools.product((0, 1, 999, 1000, 9999), (0, 1, 999, 1000, 9999, None), (0, 9999)):
            entry = (("desk", 0), "visit", ("ann",), since, till, known, None, None)
            permit = ("ann", "care", "allow", since, till, known)
            self.assertEqual(read_entries(show_entries([entry])), [entry])
            self.assertEqual(read_permits(show_permits([permit])), [permit])

    def test_what_a_history_refuses_is_read(self):
        for text, word in (("s.0 none ann 0 - 0 - -", "table"), ("s.0 visit 5 0 - 0 - -", "row"),
                           ("s.0 visit ann,9999 0 - 0 - -", "row"), ("s.0 visit - 0 - 0 s.0 -", "rights"),
                           ("s.0 visit ! 0 - 0 - -", "form"), ("s.0 visit ann 1000 - 0 - -", "form"),
                           ("s.0 visit ann 5 5 0 - -", "form"), ("s.0 visit ann,1,2,3,4,5,6,7 0 - 0 - -", "row")):
            entries = read_entries(text)
            self.assertEqual(show_entries(entries), text)
            with self.assertRaises(NoEntry) as caught:
                History(visits_and_stays()).put(entries[0])
            self.assertEqual(caught.exception.word, word)

    def test_told_kinds(self):
        for entry in read_entries(ENTRY_TEXT):
            self.assertEqual([type(entry), type(entry[0]), type(entry[0][1]), type(entry[3])], [tuple, tuple, int, int])
        self.assertEqual({type(permit) for permit in read_permits(PERMIT_TEXT)}, {tuple})
        self.assertEqual((type(read_entries("")), type(read_permits(""))), (list, list))


class Refusals(unittest.TestCase):
    def refused(self, read, text, row):
        with self.assertRaises(NoText) as caught:
            read(text)
        self.assertEqual(caught.exception.row, row, repr(text))

    def bad(self, read, good, line):
        """The line is none, wherever it stands among good ones; the first such is told of."""
        if line:
            self.refused(read, line, 0)
        self.refused(read, line + "\n" + good, 0)
        self.refused(read, good + "\n" + good + "\n" + line, 2)
        self.refused(read, good + "\n" + line + "\n" + line + "\n" + good, 1)

    def each_word(self, read, good, words):
        """Each word of a good line put otherwise; words tells of each which it may not be."""
        self.assertEqual(len(read(good + "\n" + good)), 2)
        for place, tried in enumerate(words):
            for word in tried:
                line = good.split(" ")
                line[place] = word
                with self.subTest(place=place, word=word):
                    self.bad(read, good, " ".join(line))

    def lines(self, read, good):
        """Words too few or many, blanks, rows without signs."""
        words = good.split(" ")
        for line in (" ".join(words[:-1]), " ".join(words[1:]), good + " -", good + " 5", "- " + good, words[0], "!",
                     good + " ", " " + good, good.replace(" ", "  ", 1), good.replace(" ", "\t", 1),
                     good.replace(" ", "", 1), good + "\r", good.upper(), "", " ", "\t", good + "\t", good + "\x0b",
                     good.replace(" ", "\u00a0", 1), good + "\u2028" + good):
            if line != good:
                with self.subTest(line=line):
                    self.bad(read, good, line)

    def test_words_of_entries(self):
        good = "desk.1 visit ann,3,- 5 9 7 desk.0 b.2"
        no_till = [word for word in NO_NUMBERS if word != "-"]
        self.each_word(read_entries, good, [NO_KEYS + ["-"], NO_NAMES, NO_CELLS, NO_NUMBERS, no_till, NO_NUMBERS,
                                            NO_KEYS, NO_KEYS])

    def test_words_of_permits(self):
        good = "ann care allow 5 9 7"
        no_till = [word for word in NO_NUMBERS if word != "-"]
        self.each_word(read_permits, good, [NO_NAMES, NO_NAMES, NO_NAMES, NO_NUMBERS, no_till, NO_NUMBERS])

    def test_lines(self):
        self.lines(read_entries, "desk.1 visit ann,3,- 5 9 7 desk.0 b.2")
        self.lines(read_permits, "ann care allow 5 9 7")
        self.refused(read_entries, PERMIT_TEXT, 0)
        self.refused(read_permits, ENTRY_TEXT, 0)

    def test_good_words_at_their_bounds(self):
        for number in ("0", "1", "10", "999", "1000", "9999"):
            self.assertEqual(read_permits(f"a b abcdefgh {number} - 0")[0][3], int(number))
            entry = read_entries(f"abcdefgh.{number} a {number} 0 {number} 0 a.{number} b.{number}")[0]
            number = int(number)
            self.assertEqual(entry, (("abcdefgh", number), "a", (number,), 0, number, 0, ("a", number), ("b", number)))

    def test_rows_without_signs(self):
        for read, text in ((read_entries, ENTRY_TEXT), (read_permits, PERMIT_TEXT)):
            many = len(text.split("\n"))
            self.refused(read, text + "\n", many)
            self.refused(read, text + "\n\n", many)
            self.refused(read, "\n" + text, 0)
            self.refused(read, "\n", 0)
            self.refused(read, " ", 0)
            self.refused(read, text.replace("\n", "\n\n", 1), 1)

    def test_no_text_at_all(self):
        for thing in of_any_kind() + [0, ENTRIES, [ENTRY_TEXT], ENTRY_TEXT.encode(), PERMIT_TEXT.encode(), Likes()]:
            if thing != "" or not isinstance(thing, str):
                for read in (read_entries, read_permits):
                    with self.subTest(read=read, thing=repr(thing)):
                        self.refused(read, thing, 0)

    def test_told_is_new_and_what_is_handed_in_stays(self):
        entries, permits, rows = copy.deepcopy([ENTRIES, PERMITS, [(V, ("ann", 3))]])
        show_entries(entries)
        show_permits(permits)
        show_rows(rows)
        self.assertEqual([entries, permits, rows], [ENTRIES, PERMITS, [(V, ("ann", 3))]])
        read_entries(ENTRY_TEXT).clear()
        read_permits(PERMIT_TEXT).clear()
        self.assertEqual((read_entries(ENTRY_TEXT), read_permits(PERMIT_TEXT)), (ENTRIES, PERMITS))

    def test_by_the_names_of_the_interface(self):
        self.assertEqual((show_rows(rows=[]), show_entries(entries=[]), show_permits(permits=[])), ("", "", ""))
        self.assertEqual((read_entries(text=""), read_permits(text="")), ([], []))


if __name__ == "__main__":
    unittest.main()
