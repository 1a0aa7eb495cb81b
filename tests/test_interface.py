import doctest
import importlib
import inspect
import os
import unittest

README = os.path.join(os.path.dirname(os.path.dirname(os.path.abspath(__file__))), "README.md")

# File, name, its parameters as the document shows them.
CALLED = [
    ("labels", "is_name", ["thing"]),
    ("labels", "Labels", ["names", "rest"]),
    ("forests", "is_trees", ["thing"]),
    ("forests", "Forest", ["trees"]),
    ("forests", "chain", ["names"]),
    ("steps", "Step", ["kind", "what"]),
    ("pipelines", "Pipeline", ["steps"]),
    ("forms", "is_form", ["thing"]),
    ("forms", "pipeline_of", ["form"]),
    ("order", "compare", ["p", "q"]),
    ("order", "parting_forest", ["p", "q"]),
    ("order", "outside_forest", ["p", "q"]),
    ("order", "more_forest", ["p", "q"]),
    ("order", "both_forest", ["p", "q"]),
    ("order", "over", ["p", "names"]),
    ("order", "above", ["p", "names"]),
    ("order", "below", ["p", "names"]),
    ("order", "many_between", ["p", "q", "names"]),
    ("order", "nth_between", ["p", "q", "names", "number"]),
    ("order", "rank_between", ["p", "q", "names", "third"]),
    ("behind", "rest_of", ["p", "whole"]),
    ("behind", "front_of", ["p", "whole"]),
    ("behind", "either_order", ["p", "other"]),
    ("behind", "steady", ["p"]),
    ("behind", "idle_behind", ["p", "other"]),
    ("behind", "renames", ["p"]),
    ("behind", "first_ones", ["pipelines"]),
    ("behind", "common_end", ["p", "other"]),
    ("behind", "settles", ["p"]),
    ("behind", "how_often", ["p", "other"]),
]
STATIC = [("labels", "Labels"), ("forests", "Forest"), ("steps", "Step"), ("pipelines", "Pipeline")]
METHODS = {
    ("labels", "Labels"): {"within": ["b"], "__contains__": None, "__or__": None, "__and__": None, "__sub__": None,
                           "__eq__": None},
    ("forests", "Forest"): {"path": ["place"], "above": ["place"], "below": ["place"], "only": ["places"],
                            "under": ["name"], "__len__": None, "__getitem__": None, "__iter__": None, "__add__": None,
                            "__eq__": None},
    ("steps", "Step"): {"places": ["forest"], "__call__": ["forest"], "__eq__": None},
    ("pipelines", "Pipeline"): {"places": ["forest"], "__call__": ["forest"], "room": ["label"], "final": ["label"],
                                "within": ["q"], "__len__": None, "__getitem__": None, "__iter__": None,
                                "__rshift__": None,
                                "__mul__": None, "__and__": None, "__or__": None, "__eq__": None},
}
PROPERTIES = {
    ("labels", "Labels"): ("names", "rest", "text", "other"),
    ("forests", "Forest"): ("trees", "text", "names", "depth"),
    ("steps", "Step"): ("kind", "what", "text"),
    ("pipelines", "Pipeline"): ("steps", "text", "form", "left", "depth", "plain"),
}


def found(file, name):
    return getattr(importlib.import_module(f"deepcuts.{file}"), name)


class Interface(unittest.TestCase):
    def test_each_name_is_defined_in_its_file(self):
        for file, name, parameters in CALLED:
            thing = found(file, name)
            self.assertEqual(thing.__module__, f"deepcuts.{file}", name)
            self.assertEqual(list(inspect.signature(thing).parameters), parameters, name)

    def test_defaults(self):
        self.assertEqual(inspect.signature(found("labels", "Labels")).parameters["names"].default, ())
        self.assertIs(inspect.signature(found("labels", "Labels")).parameters["rest"].default, False)
        self.assertEqual(inspect.signature(found("forests", "Forest")).parameters["trees"].default, ())
        self.assertEqual(inspect.signature(found("pipelines", "Pipeline")).parameters["steps"].default, ())

    def test_methods_stand_in_the_class_itself(self):
        for key, methods in METHODS.items():
            for name, parameters in methods.items():
                self.assertIn(name, vars(found(*key)))
                if parameters is not None:
                    told = list(inspect.signature(vars(found(*key))[name]).parameters)
                    self.assertEqual(told, ["self"] + parameters, (key, name))

    def test_static_methods(self):
        for key in STATIC:
            self.assertIsInstance(vars(found(*key))["of"], staticmethod)
            self.assertEqual(list(inspect.signature(found(*key).of).parameters), ["text"])

    def test_properties_have_no_setters(self):
        for key, names in PROPERTIES.items():
            for name in names:
                self.assertIsInstance(vars(found(*key))[name], property)
                self.assertIsNone(vars(found(*key))[name].fset)


class Readme(unittest.TestCase):
    def test_its_examples(self):
        result = doctest.testfile(README, module_relative=False)
        self.assertEqual(result.failed, 0)
        self.assertGreater(result.attempted, 5)


if __name__ == "__main__":
    unittest.main()
