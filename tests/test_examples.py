import unittest

from deepcuts.forests import Forest, chain, is_trees
from deepcuts.labels import Labels, is_name
from deepcuts.steps import Step
from tests import examples

NAMES = {"Forest": Forest, "chain": chain, "is_trees": is_trees, "Labels": Labels, "is_name": is_name, "Step": Step}


class Examples(unittest.TestCase):
    def test_point_4(self):
        self.assertEqual(len(examples.read("point_04.txt")), 11)
        self.assertEqual(examples.failures("point_04.txt", dict(NAMES)), [])

    def test_point_5_steps(self):
        self.assertEqual(len(examples.read("point_05_steps.txt")), 5)
        self.assertEqual(examples.failures("point_05_steps.txt", dict(NAMES)), [])

    def test_the_runner_sees_what_is_wrong(self):
        self.assertEqual(examples.compare("1 + 1", "2", {}), None)
        self.assertEqual(examples.compare("1 + 1", "3", {}), "2")
        self.assertEqual(examples.compare("True", "1", {}), "True")
        self.assertEqual(examples.compare("[1]", "(1,)", {}), "[1]")
        self.assertEqual(examples.compare("1", "raises BadText()", {}), "1")
        told = "raises NoPlace(place=4)"
        self.assertEqual(examples.compare("Forest()[5]", told, dict(NAMES)), "raises NoPlace(place=5)")


if __name__ == "__main__":
    unittest.main()
