"""The names, parameters and places of what the interface lists for the stages that have landed."""

import importlib
import inspect
import unittest

FUNCTIONS = {
    "basics": ["is_integer value", "is_count value", "is_rest value", "inverse rest"],
    "tables": ["plus table other", "times table other", "scaled table rest", "turned table", "unit many",
               "nought tall wide", "beside table other", "above table other"],
    "reduced": ["reduced table", "rank table", "heads table", "kernel table", "undone table", "solved table wished"],
    "webs": ["turned_web web"],
    "rows": ["is_row web value", "form web row other", "rows_below web row", "simple_row web place",
             "ways_row web place"],
    "fillings": ["nought_filling web row", "simple_filling web place", "ways_filling web place",
                 "both filling other", "turned_filling filling", "exchanged filling tables",
                 "drawn_filling web row many"],
    "maps": ["both_table filling other", "maps_many filling other", "lack filling other", "all_maps filling other",
             "is_map filling other value", "unit_map filling", "map_behind filling other across third late"],
    "parts": ["is_part filling value", "part_row filling part", "part_filling filling part",
              "rest_filling filling part", "least_part filling tables", "parts_sum filling part other",
              "parts_meet filling part other", "made_part filling other across", "lost_part filling other across"],
    "joins": ["is_joining filling other value", "joined filling other joining", "laid_out filling other tables",
              "join_paper filling other joining", "is_join_paper filling other joining value"],
    "sure": ["sure_parts web row", "is_sure web row whole", "least_lack web row other", "least_maps web row other"],
    "lacks": ["lack_paper web row other", "is_lack_paper web row other value", "sure_paper web row whole",
              "is_sure_paper web row whole value"],
    "unsplit": ["is_unsplit web row", "unsplit_paper web row", "is_unsplit_paper web row value"],
    "falling": ["falls web row", "are_apart web row other", "falls_paper web row", "is_falls_paper web row value",
                "is_brick filling"],
    "weights": ["weighs web weight row", "is_steady web weight row", "weight_ways web weight",
                "square filling weight numbers", "weight_paper web weight row",
                "is_weight_paper web weight row value"],
    "steps": ["slope web weight row", "is_even web weight row", "is_stable web weight row", "steepest web weight row",
              "first_step web weight row", "steps web weight row", "corners web weight row",
              "is_steps web weight row value"],
    "turning": ["sinks web", "sources web", "turned_at web place", "turned_row web place row", "is_full filling place",
                "turned_at_filling filling place"],
    "still": ["own_lack web row", "is_still web row", "is_real web row", "still_paper web row",
              "is_still_paper web row value", "exchange filling other", "is_exchange filling other value"],
    "flags": ["flags_web size", "flags_row size", "meeting_row size sets", "taken size sets lesser",
              "meeting_count size sets", "lesser_count size sets lesser", "is_meeting size sets", "meetings size many",
              "meeting_paper size sets", "is_meeting_paper size sets value"],
    "sums": ["sum_at three sets", "is_fit three", "fit_bar three", "is_hive three value", "hive_of three",
             "fit_paper three", "is_fit_paper three value"],
    "written": ["is_of_sort sort value", "written sort value", "read sort text"],
    "claims": ["words", "is_claim value", "contrary claim", "is_true claim", "paper_of claim",
               "is_paper_of claim value"],
    "commands": ["is_name value", "is_command value", "is_deed value"],
    "desk": ["tried desk action"],
}

# Of each class: its parameters, its properties, its methods.
CLASSES = {
    ("tables", "Table"): ("tall wide rows", ["tall", "wide"], ["rows", "__eq__ other"]),
    ("webs", "Web"): ("places arrows", ["places", "many"], ["arrows", "ways place other", "__eq__ other"]),
    ("fillings", "Filling"): ("web row tables", [], ["web", "row", "tables", "along way", "__eq__ other"]),
    ("desk", "Desk"): ("", ["names", "labels"], ["__len__", "__getitem__ at", "__contains__ x", "claim_of label",
                                                "do command", "__call__ command", "do_all commands",
                                                "attempt commands", "attach label paper", "fits label", "lines",
                                                "copy"]),
    ("desk", "Trial"): ("desk", [], ["__enter__", "__exit__ kind value trace"]),
}


def parameters(action):
    return list(inspect.signature(action).parameters)


class Interface(unittest.TestCase):
    def test_functions(self):
        for module, told in FUNCTIONS.items():
            file = importlib.import_module("sureparts." + module)
            for line in told:
                name, *wanted = line.split()
                with self.subTest(name=name):
                    action = vars(file)[name]
                    self.assertTrue(inspect.isfunction(action))
                    self.assertEqual(action.__module__, file.__name__)
                    self.assertEqual(parameters(action), wanted)

    def test_class_method(self):
        desk = importlib.import_module("sureparts.desk").Desk
        self.assertIsInstance(vars(desk)["again"], classmethod)
        self.assertEqual(parameters(desk.again), ["lines"])

    def test_classes(self):
        for (module, name), (wanted, properties, methods) in CLASSES.items():
            file = importlib.import_module("sureparts." + module)
            kind = getattr(file, name)
            with self.subTest(name=name):
                self.assertTrue(inspect.isclass(kind))
                self.assertEqual(kind.__module__, file.__name__)
                self.assertEqual(parameters(kind), wanted.split())
                for told in properties:
                    self.assertIsInstance(vars(kind)[told], property)
                for line in methods:
                    method, *inner = line.split()
                    self.assertEqual(parameters(vars(kind)[method]), ["self"] + inner)


if __name__ == "__main__":
    unittest.main()
