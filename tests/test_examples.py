import os
import unittest

from deepcuts import (behind, board, costs, desk, errors, forests, forms, labels, order, paths, pipelines, rows,
                      sources, steps, tells, texts)
from tests import examples

DOCUMENT = os.path.join(os.path.dirname(__file__), "..", "..", "shared", "DOC.md")
MODULES = (labels, forests, steps, pipelines, forms, order, behind, paths, costs, sources, tells, rows,
           board, texts, desk)
# The points with examples, and how many lines of code each one has.
POINTS = {4: 11, 5: 12, 6: 7, 7: 16, 8: 7, 9: 10, 10: 6, 11: 12, 12: 11, 13: 7, 14: 13, 15: 6,
          16: 3}

# Point 14 writes a Step that has no text by points 4 and 5: "script" is less than "span", and Labels.of("b a") raises
# BadText. The examples are run with these two NAMEs in order; all else stands in them word for word.
AMENDED = {14: (("unwrap span script", "unwrap script span"),)}


def public_names():
    """What the modules define, by name."""
    found = {}
    for module in MODULES:
        for name, value in vars(module).items():
            if getattr(value, "__module__", "") == module.__name__:
                found[name] = value
    return found


def file_of(point):
    return f"point_{point:02d}.txt"


def lines_of(text, point):
    """The lines of the examples of a point of the document."""
    body = text.split(f"\n**[{point}]**")[1].split("\n## ")[0].split("\n# ")[0]
    return [line[4:] for line in body.split("\n") if line.startswith("    ")]


class Examples(unittest.TestCase):
    def test_all_in_order(self):
        # A later point uses names that an earlier one has given.
        names = public_names()
        for point, many in POINTS.items():
            with self.subTest(point=point):
                self.assertEqual(len(examples.read(file_of(point))), many)
                self.assertEqual(examples.failures(file_of(point), names, AMENDED.get(point, ())), [])

    @unittest.skipUnless(os.path.exists(DOCUMENT), "the document is not here")
    def test_they_stand_in_the_document_word_for_word(self):
        with open(DOCUMENT, encoding="utf-8") as file:
            text = file.read()
        for point in POINTS:
            with open(os.path.join(examples.FOLDER, file_of(point)), encoding="utf-8") as file:
                self.assertEqual(file.read().splitlines(), lines_of(text, point), point)

    def test_what_is_amended_can_not_be_run_as_it_stands(self):
        for point, pairs in AMENDED.items():
            text = "\n".join([code for _, code, _ in examples.read(file_of(point))])
            for printed, meant in pairs:
                self.assertEqual(text.count(printed), 2)
                self.assertEqual(steps.Step.of(meant).text, meant)
                with self.assertRaises(errors.BadText):
                    steps.Step.of(printed)

    def test_the_runner_sees_what_is_wrong(self):
        self.assertEqual(examples.compare("1 + 1", "2", {}), None)
        self.assertEqual(examples.compare("1 + 1", "3", {}), "2")
        self.assertEqual(examples.compare("True", "1", {}), "True")
        self.assertEqual(examples.compare("[1]", "(1,)", {}), "[1]")
        self.assertEqual(examples.compare("1", "raises BadText()", {}), "1")
        told = "raises NoPlace(place=4)"
        self.assertEqual(examples.compare("Forest()[5]", told, public_names()), "raises NoPlace(place=5)")


if __name__ == "__main__":
    unittest.main()
