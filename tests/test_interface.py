import doctest
import importlib
import inspect
import os
import re
import unittest

DOCUMENT = os.path.join(os.path.dirname(__file__), "..", "..", "shared", "DOC.md")
README = os.path.join(os.path.dirname(os.path.dirname(os.path.abspath(__file__))), "README.md")

# File, name, its parameters as the document shows them.
CALLED = [
    ("labels", "is_name", ["thing"]),
    ("labels", "Labels", ["names", "rest"]),
    ("forests", "is_trees", ["thing"]),
    ("forests", "Forest", ["trees"]),
    ("forests", "chain", ["names"]),
    ("steps", "Step", ["kind", "what"]),
    ("pipelines", "Pipeline", ["steps"]),
    ("forms", "is_form", ["thing"]),
    ("forms", "pipeline_of", ["form"]),
    ("order", "compare", ["p", "q"]),
    ("order", "parting_forest", ["p", "q"]),
    ("order", "outside_forest", ["p", "q"]),
    ("order", "more_forest", ["p", "q"]),
    ("order", "both_forest", ["p", "q"]),
    ("order", "over", ["p", "names"]),
    ("order", "above", ["p", "names"]),
    ("order", "below", ["p", "names"]),
    ("order", "many_between", ["p", "q", "names"]),
    ("order", "nth_between", ["p", "q", "names", "number"]),
    ("order", "rank_between", ["p", "q", "names", "third"]),
    ("behind", "rest_of", ["p", "whole"]),
    ("behind", "front_of", ["p", "whole"]),
    ("behind", "either_order", ["p", "other"]),
    ("behind", "steady", ["p"]),
    ("behind", "idle_behind", ["p", "other"]),
    ("behind", "renames", ["p"]),
    ("behind", "first_ones", ["pipelines"]),
    ("behind", "common_end", ["p", "other"]),
    ("behind", "settles", ["p"]),
    ("behind", "how_often", ["p", "other"]),
    ("paths", "stays", ["pipeline", "path"]),
    ("paths", "stays_by_runs", ["pipeline", "runs"]),
    ("paths", "taken_by", ["pipeline", "path"]),
    ("paths", "why_goes", ["pipeline", "path"]),
    ("paths", "is_reason", ["pipeline", "path", "thing"]),
    ("paths", "taken_out", ["pipeline", "path", "prices"]),
    ("paths", "fewest_out", ["pipeline", "path"]),
    ("paths", "cheapest_out", ["pipeline", "path", "prices"]),
    ("paths", "how_many", ["pipeline", "names", "size"]),
    ("paths", "path_at", ["pipeline", "names", "size", "number"]),
    ("paths", "number_of", ["pipeline", "names", "path"]),
    ("paths", "longest", ["pipeline", "names"]),
    ("costs", "needless", ["pipeline"]),
    ("costs", "effects", ["pipeline"]),
    ("costs", "kinds_needed", ["pipeline"]),
    ("costs", "price_of", ["pipeline", "prices"]),
    ("costs", "fewest", ["pipeline"]),
    ("costs", "cheapest", ["pipeline", "prices"]),
    ("sources", "strange_place", ["pipeline", "forest"]),
    ("sources", "can_come", ["pipeline", "forest"]),
    ("sources", "source", ["pipeline", "forest"]),
    ("sources", "could_stand", ["pipeline", "forest", "place", "names"]),
    ("sources", "source_with", ["pipeline", "forest", "place", "names"]),
    ("sources", "labels_above", ["pipeline", "forest", "place"]),
    ("sources", "how_many_above", ["pipeline", "forest", "place"]),
    ("sources", "sure_places", ["pipeline", "forest", "unknown"]),
    ("sources", "maybe_places", ["pipeline", "forest", "unknown"]),
    ("sources", "Live", ["pipeline"]),
    ("tells", "path_tells", ["path", "other"]),
    ("tells", "path_breaks", ["path", "other"]),
    ("tells", "tellers", ["paths"]),
    ("tells", "rooms_told", ["left", "looks"]),
    ("tells", "next_look", ["left", "looks", "name", "most"]),
    ("tells", "looks_needed", ["left", "looks", "name", "most"]),
    ("tells", "telling_forest", ["names", "most"]),
    ("tells", "seen_by", ["pipeline", "forest"]),
    ("tells", "read_off", ["names", "most", "seen"]),
    ("rows", "in_row", ["filters", "order"]),
    ("rows", "first_only", ["order"]),
    ("rows", "renames", ["p"]),
    ("rows", "outcomes", ["filters"]),
    ("rows", "all_alike", ["filters"]),
    ("rows", "unlike_pair", ["filters"]),
    ("rows", "most_order", ["filters"]),
    ("rows", "least_order", ["filters"]),
    ("rows", "always", ["filters", "forest"]),
    ("rows", "sometimes", ["filters", "forest"]),
    ("board", "Board", []),
    ("texts", "program_of", ["text"]),
    ("texts", "board_text", ["board"]),
    ("texts", "board_in", ["text"]),
    ("desk", "answers", ["text"]),
]
STATIC = [("labels", "Labels"), ("forests", "Forest"), ("steps", "Step"), ("pipelines", "Pipeline")]
METHODS = {
    ("labels", "Labels"): {"within": ["b"], "__contains__": None, "__or__": None, "__and__": None, "__sub__": None,
                           "__eq__": None},
    ("forests", "Forest"): {"path": ["place"], "above": ["place"], "below": ["place"], "only": ["places"],
                            "under": ["name"], "__len__": None, "__getitem__": None, "__iter__": None, "__add__": None,
                            "__eq__": None},
    ("steps", "Step"): {"places": ["forest"], "__call__": ["forest"], "__eq__": None},
    ("pipelines", "Pipeline"): {"places": ["forest"], "__call__": ["forest"], "room": ["label"], "final": ["label"],
                                "within": ["q"], "__len__": None, "__getitem__": None, "__iter__": None,
                                "__rshift__": None,
                                "__mul__": None, "__and__": None, "__or__": None, "__eq__": None},
    ("sources", "Live"): {"begin": ["name"], "end": [], "may": ["name"], "begins": [], "most": ["name"], "copied": [],
                          "__len__": None},
    ("board", "Board"): {"seen": ["name"], "shown": ["name"], "common": [], "unseen": [], "idle": [],
                         "effect": ["name", "pipeline"], "leave": ["name"], "frame": ["name", "low", "high"],
                         "lift": ["name"], "turn": ["pipeline"], "put": ["place", "label"], "take": ["place"],
                         "unwrap": ["place"], "call": ["place", "label"], "attempt": ["deeds"], "undo": [], "twin": [],
                         "__len__": None, "__contains__": None, "__getitem__": None, "__setitem__": None,
                         "__iadd__": None, "__iter__": None, "__eq__": None},
}
PROPERTIES = {
    ("labels", "Labels"): ("names", "rest", "text", "other"),
    ("forests", "Forest"): ("trees", "text", "names", "depth"),
    ("steps", "Step"): ("kind", "what", "text"),
    ("pipelines", "Pipeline"): ("steps", "text", "form", "left", "depth", "plain"),
    ("sources", "Live"): ("pipeline", "names", "out"),
    ("board", "Board"): ("page", "house", "names", "frames"),
}
# As the document lists them under its files.
LISTED = {"labels": 2, "forests": 3, "steps": 1, "pipelines": 1, "forms": 2, "order": 11, "behind": 10, "paths": 12,
          "costs": 6, "sources": 10, "tells": 9, "rows": 10, "board": 1, "texts": 3, "desk": 1}


def found(file, name):
    return getattr(importlib.import_module(f"deepcuts.{file}"), name)


class Interface(unittest.TestCase):
    def test_each_name_is_defined_in_its_file(self):
        for file, name, parameters in CALLED:
            thing = found(file, name)
            self.assertEqual(thing.__module__, f"deepcuts.{file}", name)
            self.assertEqual(list(inspect.signature(thing).parameters), parameters, name)

    def test_defaults(self):
        self.assertEqual(inspect.signature(found("labels", "Labels")).parameters["names"].default, ())
        self.assertIs(inspect.signature(found("labels", "Labels")).parameters["rest"].default, False)
        self.assertEqual(inspect.signature(found("forests", "Forest")).parameters["trees"].default, ())
        self.assertEqual(inspect.signature(found("pipelines", "Pipeline")).parameters["steps"].default, ())
        self.assertIs(inspect.signature(found("paths", "taken_out")).parameters["prices"].default, None)

    def test_as_many_names_as_the_document_lists(self):
        files = [file for file, _, _ in CALLED]
        self.assertEqual({file: files.count(file) for file in files}, LISTED)

    @unittest.skipUnless(os.path.exists(DOCUMENT), "the document is not here")
    def test_each_name_stands_under_its_file_in_the_document(self):
        with open(DOCUMENT, encoding="utf-8") as file:
            text = file.read().split("in the order in which they should be written: ")[1]
        listed = {}
        for file, names in re.findall(r"deepcuts/([a-z]+)\.py \(([^)]*)\)", text):
            listed[file] = sorted(names.split(", "))
        for file in LISTED:
            self.assertEqual(sorted(name for own, name, _ in CALLED if own == file), listed.pop(file), file)
        self.assertEqual(listed, {})

    def test_methods_stand_in_the_class_itself(self):
        for key, methods in METHODS.items():
            for name, parameters in methods.items():
                self.assertIn(name, vars(found(*key)))
                if parameters is not None:
                    told = list(inspect.signature(vars(found(*key))[name]).parameters)
                    self.assertEqual(told, ["self"] + parameters, (key, name))

    def test_static_methods(self):
        for key in STATIC:
            self.assertIsInstance(vars(found(*key))["of"], staticmethod)
            self.assertEqual(list(inspect.signature(found(*key).of).parameters), ["text"])

    def test_properties_have_no_setters(self):
        for key, names in PROPERTIES.items():
            for name in names:
                self.assertIsInstance(vars(found(*key))[name], property)
                self.assertIsNone(vars(found(*key))[name].fset)


class Readme(unittest.TestCase):
    def test_its_examples(self):
        result = doctest.testfile(README, module_relative=False)
        self.assertEqual(result.failed, 0)
        self.assertGreater(result.attempted, 5)


if __name__ == "__main__":
    unittest.main()
