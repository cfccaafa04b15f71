"""The names of the interface, where they are defined, and the names of their parameters."""

import importlib
import inspect
import unittest

FUNCTIONS = {
    "basics": "is_integer(value) is_count(value) is_list(value)",
    "rows": "is_row(value)",
    "tables": "idle(size) is_idle(table) turned(table,other) polynomial(table) beside(table,other) "
              "rests_alike(table,other,modulus)",
    "words": "is_word(value,many) product(makers,word) shortened(word) contrary_word(word) words_to(makers,many)",
    "forms": "sum_form(size) corners(form) signs(form)",
    "squares": "squares(form) is_squares(form,value)",
    "bowls": "is_bowl(form) pit(form) is_pit(form,value) bowl_bound(bowl,place,many)",
    "equations": "solution_basis(equations) is_solution(equations,value) is_solution_basis(equations,value)",
    "kept": "keeps(table,form) kept_forms(makers) is_kept_basis(makers,value) kept_rank(makers) "
            "kept_parts(makers,basis,form) kept_rows(makers) is_rows_basis(makers,value)",
    "shorts": "short_rows(bowl,many) rows_of_worth(bowl,many) is_short_list(bowl,many,value)",
    "counts": "worth_counts(bowl,many) unlike_worth(bowl,goal,many)",
    "least": "least_worth(bowl) least_rows(bowl) steps_of(bowl) step_rows(bowl) is_step_rows(bowl,value)",
    "orders": "order(table) home(table,number) rest_order(table)",
    "verdicts": "kept_bowl(lot) is_bowl_paper(lot,value) endless_paper(lot) is_endless_paper(lot,value) "
                "rest_members(lot,modulus)",
    "parts": "same_members(lot,other_lot) is_within(sub,lot) shares(lot,sub) turned_lot(lot,table) "
             "beside_lots(lot,other_lot)",
    "classes": "turned_members(lot,member) classes(lot) middle(lot) goes_together(lot) orders_of(lot)",
    "makers": "made_by(lot,members) fewest_makers(lot) some_makers(lot) is_makers(lot,value) sub_lots(lot)",
    "keepers": "is_keeper(bowl,value) keepers(bowl) keepers_lot(bowl)",
    "leads": "lead(bowl,goal) is_lead(bowl,goal,value) leads(bowl,goal) is_unlike(bowl,goal,value) least_form(bowl) "
             "least_lead(bowl)",
    "plane": "told_lot(kind) plane_kind(lot) kind_lead(lot) is_kind_lead(lot,value)",
    "rounds": "round_of(lot,row) stayers(lot,row) rounds_within(lot,many) rest_rounds(lot,modulus)",
    "means": "sum_table(lot) kept_part(lot,row) mean_trace(lot) mean_forms(lot) mean_rounds(lot,modulus)",
    "degrees": "poly_led(table,poly) averaged(lot,poly) is_kept_poly(lot,value) degree_counts(lot,many) "
               "solved_count(lot,degree)",
    "texts": "sorts() is_of(sort,value) written(sort,value)",
    "readers": "read(text)",
    "claims": "words() is_claim(value) is_true(claim) contrary(claim) paper_of(claim) is_paper_of(claim,value)",
    "commands": "is_name(value) is_command(value) is_deed(value)",
    "desk": "tried(desk,action)",
}
METHODS = {
    ("tables", "Table"): "__init__(rows) lead(row) undone() power(number) rests(modulus) __eq__(other) __repr__() "
                         "__mul__(other)",
    ("forms", "Form"): "__init__(rows) worth(row) between(row,other) times(number) led(table) divisor() single() "
                       "__eq__(other) __repr__() __add__(other)",
    ("lots", "Lot"): "__init__(makers) makers() members() has(value) word_of(member) product(word) __eq__(other) "
                     "__repr__()",
    ("desk", "Desk"): "__init__() __len__() __getitem__(name) __contains__(name) __call__(command) claim_of(label) "
                      "do(command) do_all(commands) attempt(commands) attach(label,paper) fits(label) lines() copy()",
    ("desk", "Trial"): "__init__(desk) __enter__() __exit__(kind,value,trace)",
}
PROPERTIES = {("tables", "Table"): "rows size determinant trace", ("forms", "Form"): "rows size determinant",
              ("lots", "Lot"): "size is_finite total", ("desk", "Desk"): "names labels"}


def listed(text):
    for part in text.split():
        name, _, rest = part.partition("(")
        yield name, [word for word in rest.rstrip(")").split(",") if word]


class Interface(unittest.TestCase):
    def test_functions(self):
        for file, text in FUNCTIONS.items():
            module = importlib.import_module(f"keptbowls.{file}")
            for name, parameters in listed(text):
                with self.subTest(name=name):
                    made = getattr(module, name)
                    self.assertTrue(inspect.isfunction(made))
                    self.assertEqual(made.__module__, f"keptbowls.{file}")
                    self.assertEqual(list(inspect.signature(made).parameters), parameters)

    def test_methods_stand_in_their_class(self):
        for (file, kind), text in METHODS.items():
            made = getattr(importlib.import_module(f"keptbowls.{file}"), kind)
            self.assertEqual([made.__module__, made.__bases__], [f"keptbowls.{file}", (object,)])
            for name, parameters in listed(text):
                with self.subTest(name=name):
                    self.assertIn(name, vars(made))
                    self.assertEqual(list(inspect.signature(vars(made)[name]).parameters)[1:], parameters)

    def test_properties_stand_in_their_class(self):
        for (file, kind), text in PROPERTIES.items():
            made = getattr(importlib.import_module(f"keptbowls.{file}"), kind)
            for name in text.split():
                self.assertIsInstance(vars(made)[name], property)

    def test_class_method_stands_in_its_class(self):
        made = importlib.import_module("keptbowls.desk").Desk
        self.assertIsInstance(vars(made)["again"], classmethod)
        self.assertEqual(list(inspect.signature(made.again).parameters), ["lines"])

    def test_many_commands_are_passed_one_by_one(self):
        made = importlib.import_module("keptbowls.desk").Desk
        for name in ("do_all", "attempt"):
            self.assertEqual(str(inspect.signature(vars(made)[name])), "(self, *commands)")
