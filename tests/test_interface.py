"""The interface's names, where they are defined, and their arguments, as the document writes them."""

import importlib
import inspect
import unittest

FUNCTIONS = {
    "names": ["is_name(thing)", "is_worth(thing)", "is_moment(thing)"],
    "tables": ["are_tables(thing)", "is_row(table, thing)", "read_row(table, row)", "persons_of(row)"],
    "plans": ["look_at_plan(tables, plan)", "columns_of(tables, plan, name)"],
    "deriving": ["derived(tables, plan, stands)", "keys_of(thread)"],
    "threads": ["lets_derived(tables, plan, stands, thing)", "turned(one, other)", "hanging(derived, key)",
                "without_key(tables, plan, stands, key)"],
    "models": ["is_model(columns, thing)", "learn(columns, rows, model)", "turns(model, one, other)"],
    "weights": ["weights(tables, plan, derived, name, column)"],
    "paper": ["amiss(tables, plan, models, thing)", "trace(thing, persons)"],
    "combining": ["lets_combination(weights, persons, fewest, thing)", "combination(weights, persons, fewest)"],
    "texts": ["show_rows(rows)", "show_entries(entries)", "show_permits(permits)", "read_entries(text)",
              "read_permits(text)"],
}
CLASSES = {
    "history": {"History": ("(tables)", [
        "put(self, entry)", "tables(self)", "entries(self)", "entry(self, key)",
        "rows_at(self, name, so, *, known=None)", "stands(self, so, *, known=None)", "without(self, persons)",
        "gone(self, persons)", "lacking(self, persons)", "twin(self)", "__len__(self)", "__eq__(self, other)"])},
    "permits": {"Book": ("()", [
        "put(self, permission)", "permits(self)", "allows(self, person, purpose, so, *, known=None)",
        "lets_row(self, row, purpose, so, *, known=None)", "without(self, persons)", "twin(self)", "__len__(self)",
        "__eq__(self, other)"])},
    "kept": {"Kept": ("(tables, plan)", [
        "turn(self, goes, comes)", "back(self)", "derived(self)", "table(self, name)", "twin(self)", "__len__(self)"])},
    "house": {"House": ("(tables, plan, *, models=None, fewest=1)", [
        "tell(self, entry)", "allow(self, permission)", "history(self)", "book(self)", "clock(self)",
        "table(self, name, so, *, known=None)", "derived(self, so, *, known=None)",
        "model(self, name, so, *, known=None)", "found(self, name, column, so, *, known=None)",
        "serve(self, asker, purpose, name, at)", "copy(self, at)", "export(self, name, at)", "answer(self, number)",
        "copied(self, number)", "exported(self, number)", "leaning(self, person, purpose)",
        "publish(self, name, column, at)", "sums(self)", "forget(self, person)", "begin(self, person)",
        "go_on(self)", "is_amid(self)", "fall(self)", "made(self)", "otherwise(self)", "shown(self, person, so)",
        "paper(self)", "twin(self)", "__len__(self)", "__eq__(self, other)"])},
    "desk": {"Desk": ("(tables, plan, *, models=None, fewest=1)", ["say(self, row)", "__len__(self)"])},
    "learnt": {"Learnt": ("(columns, model)", [
        "come(self, rows)", "go(self, rows)", "told(self)", "twin(self)", "__len__(self)"])},
}


class Interface(unittest.TestCase):
    def test_functions(self):
        for module, told in FUNCTIONS.items():
            there = importlib.import_module(f"asnevertold.{module}")
            for text in told:
                found = getattr(there, text.split("(")[0])
                self.assertTrue(inspect.isfunction(found), text)
                self.assertEqual(found.__module__, there.__name__)
                self.assertEqual(found.__name__ + str(inspect.signature(found)), text)

    def test_classes_and_their_own_methods(self):
        for module, classes in CLASSES.items():
            there = importlib.import_module(f"asnevertold.{module}")
            for name, (made, methods) in classes.items():
                found = getattr(there, name)
                self.assertTrue(inspect.isclass(found), name)
                self.assertEqual(found.__module__, there.__name__)
                self.assertEqual(str(inspect.signature(found)), made)
                for text in methods:
                    method = vars(found)[text.split("(")[0]]
                    self.assertTrue(inspect.isfunction(method), text)
                    self.assertEqual(method.__name__ + str(inspect.signature(method)), text)


if __name__ == "__main__":
    unittest.main()
