"""The names, parameters and places of what the interface lists for the stages that have landed."""

import importlib
import inspect
import unittest

FUNCTIONS = {
    "basics": ["is_integer value", "is_count value", "is_rest value", "inverse rest"],
    "tables": ["plus table other", "times table other", "scaled table rest", "turned table", "unit many",
               "nought tall wide", "beside table other", "above table other"],
    "reduced": ["reduced table", "rank table", "heads table", "kernel table", "undone table", "solved table wished"],
    "webs": ["turned_web web"],
    "rows": ["is_row web value", "form web row other", "rows_below web row", "simple_row web place",
             "ways_row web place"],
    "fillings": ["nought_filling web row", "simple_filling web place", "ways_filling web place",
                 "both filling other", "turned_filling filling", "exchanged filling tables",
                 "drawn_filling web row many"],
    "maps": ["both_table filling other", "maps_many filling other", "lack filling other", "all_maps filling other",
             "is_map filling other value", "unit_map filling", "map_behind filling other across third late"],
}

# Of each class: its parameters, its properties, its methods.
CLASSES = {
    ("tables", "Table"): ("tall wide rows", ["tall", "wide"], ["rows", "__eq__ other"]),
    ("webs", "Web"): ("places arrows", ["places", "many"], ["arrows", "ways place other", "__eq__ other"]),
    ("fillings", "Filling"): ("web row tables", [], ["web", "row", "tables", "along way", "__eq__ other"]),
}


def parameters(action):
    return list(inspect.signature(action).parameters)


class Interface(unittest.TestCase):
    def test_functions(self):
        for module, told in FUNCTIONS.items():
            file = importlib.import_module("sureparts." + module)
            for line in told:
                name, *wanted = line.split()
                with self.subTest(name=name):
                    action = getattr(file, name)
                    self.assertTrue(inspect.isfunction(action))
                    self.assertEqual(action.__module__, file.__name__)
                    self.assertEqual(parameters(action), wanted)

    def test_classes(self):
        for (module, name), (wanted, properties, methods) in CLASSES.items():
            file = importlib.import_module("sureparts." + module)
            kind = getattr(file, name)
            with self.subTest(name=name):
                self.assertTrue(inspect.isclass(kind))
                self.assertEqual(kind.__module__, file.__name__)
                self.assertEqual(parameters(kind), wanted.split())
                for told in properties:
                    self.assertIsInstance(vars(kind)[told], property)
                for line in methods:
                    method, *inner = line.split()
                    self.assertEqual(parameters(vars(kind)[method]), ["self"] + inner)


if __name__ == "__main__":
    unittest.main()
