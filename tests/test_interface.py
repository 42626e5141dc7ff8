"""The interface: each name stands in its file, with its parameters; each method in its class itself."""

import ast
import importlib
import inspect
import pathlib
import unittest

PACKAGE = pathlib.Path(__file__).resolve().parent.parent / "flowpieces"
FUNCTIONS = {
    "words": "is_word(value) is_sum(value) number_at(terms,word) part_of(terms,length) plus(terms,other)"
    " times_number(terms,fraction) product(terms,other,length) bracket(terms,other,length) exponential(terms,length)"
    " logarithm(terms,length)",
    "tables": "are_tables(value) are_closed(tables) shifts(word,letters) read_in(terms,tables)"
    " step_table(step,tables,fraction) flow_table(tables,fraction)",
    "steps": "is_step(value) short_form(step) are_alike(step,other) parting_word(step,other) undoing(step) mirrored(step)"
    " timed(step,fraction) joined(step,other) is_symmetric(step) series_of(step,length) whole_of(letters,length)",
    "orders": "order_of(step,letters) miss_of(step,letters) change_followed(step,length) step_following(terms,length)"
    " missing_step(word,letters)",
    "brackets": "is_least(word) least_words(letters,length) halves(word) nested(word) lead_of(terms) is_bracket_sum(terms)"
    " coordinates(terms) by_coordinates(terms) shuffles(word,other) is_of_flow(terms,length) breaking_words(terms,length)",
    "forwards": "has_back(step,letter) lag_of(step) least_lag(many) calmest_step(many,letter) is_meaning(value)"
    " order_with(step,meaning) miss_with(step,meaning)",
    "parts": "in_parts(step,parts) raises(parts,order) raises_twice(parts,order) unraised_step(parts,letters,order)",
    "processed": "processed_order(step,letters) leading_in(step,letters) leading_step(step,letters)",
    "relations": "are_relations(value) vanishes(relations,terms,length) ways(relations,terms,length)"
    " weights(relations,terms,length) are_weights(relations,terms,length,value) kept_order(step,letters,relations)"
    " kept_weights(step,letters,relations)",
    "swings": "swing_table(step) swing_at(step,time) swing_word(step,time) swing_bound(step,many) kept_form(step,time)"
    " stray(step,time,many) swing_order(step)",
    "checker": "accepts(claim,paper)",
    "certificates": "certify_likeness(step,other) certify_order(step,letters) certify_brackets(terms)"
    " certify_flow(terms,length) certify_followed(step,length) certify_lag(step) certify_parts(parts,order)"
    " certify_processed(step,letters) certify_kept(step,letters,relations) certify_swing(step,time) certify_bound(step,many)",
}
CLASSES = {
    "workshops": {
        "Workshop": "__init__(self) put(self,name,step) drop(self,name) wish(self,wish) lift(self,index) named(self,name)"
        " undo(self) trial(self) tried(self,action) __len__(self) names(self) wishes(self)",
    },
    "consoles": {"Console": "__init__(self,shop) say(self,line)"},
}


def told(text):
    """The pairs of a name and its parameters that a text tells."""
    return [(one.split("(")[0], [name for name in one.split("(")[1][:-1].split(",") if name]) for one in text.split()]


def definitions(body):
    """The functions, methods and classes that a body itself defines, with their parameters."""
    return {
        node.name: [one.arg for one in node.args.args] if isinstance(node, ast.FunctionDef) else node
        for node in body if isinstance(node, (ast.FunctionDef, ast.ClassDef))
    }


class Interface(unittest.TestCase):
    def test_functions(self):
        for module, text in FUNCTIONS.items():
            there = definitions(ast.parse((PACKAGE / f"{module}.py").read_text()).body)
            loaded = importlib.import_module(f"flowpieces.{module}")
            for name, parameters in told(text):
                self.assertEqual(there.get(name), parameters, f"{module}.{name}")
                self.assertEqual(list(inspect.signature(getattr(loaded, name)).parameters), parameters)

    def test_classes(self):
        for module, classes in CLASSES.items():
            there = definitions(ast.parse((PACKAGE / f"{module}.py").read_text()).body)
            for name, text in classes.items():
                methods = definitions(there[name].body)
                for method, parameters in told(text):
                    self.assertEqual(methods.get(method), parameters, f"{module}.{name}.{method}")
                loaded = getattr(importlib.import_module(f"flowpieces.{module}"), name)
                self.assertEqual(loaded.__module__, f"flowpieces.{module}")
        workshop = importlib.import_module("flowpieces.workshops").Workshop
        self.assertIsInstance(workshop.names, property)
        self.assertIsInstance(workshop.wishes, property)


if __name__ == "__main__":
    unittest.main()
