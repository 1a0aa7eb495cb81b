import unittest

from deepcuts import errors

KEPT = {
    "NoPlace": (LookupError, ("place",)),
    "NoView": (LookupError, ("name",)),
    "NoFrame": (LookupError, ("name",)),
    "NoNumber": (LookupError, ("number",)),
    "NotBetween": (LookupError, ("strange",)),
    "BadText": (ValueError, ()),
    "BadStep": (ValueError, ("given",)),
    "Unfit": (ValueError, ()),
    "Unlike": (ValueError, ()),
    "NothingOpen": (ValueError, ()),
    "Outside": (ValueError, ("name",)),
    "Renaming": (ValueError, ("place",)),
    "BadLine": (ValueError, ("number",)),
    "Stopped": (ValueError, ("number", "raised", "value")),
}


class Errors(unittest.TestCase):
    def test_each_is_a_direct_subclass_of_its_built_in_class_alone(self):
        for name, (base, _) in KEPT.items():
            with self.subTest(name=name):
                self.assertEqual(getattr(errors, name).__bases__, (base,))
                self.assertEqual(getattr(errors, name).__module__, "deepcuts.errors")

    def test_there_are_no_others(self):
        classes = [name for name, value in vars(errors).items() if isinstance(value, type)]
        self.assertEqual(sorted(classes), sorted(KEPT))

    def test_values_by_position_and_by_name(self):
        for name, (_, attributes) in KEPT.items():
            with self.subTest(name=name):
                values = [f"value {number}" for number in range(len(attributes))]
                wanted = dict(zip(attributes, values))
                self.assertEqual(vars(getattr(errors, name)(*values)), wanted)
                self.assertEqual(vars(getattr(errors, name)(**wanted)), wanted)

    def test_values_are_asked_for(self):
        for name, (_, attributes) in KEPT.items():
            if attributes:
                with self.subTest(name=name), self.assertRaises(TypeError):
                    getattr(errors, name)(*attributes[1:])

    def test_numbers_and_none_are_kept_as_they_are(self):
        self.assertIs(errors.Stopped(0, "NoPlace", None).value, None)
        self.assertEqual(errors.NoPlace(-10 ** 41).place, -10 ** 41)
        self.assertIs(errors.NotBetween(True).strange, True)

    def test_tuples_for_lists_at_any_depth(self):
        for name, (_, attributes) in KEPT.items():
            for at, attribute in enumerate(attributes):
                with self.subTest(name=name, attribute=attribute):
                    handed = ["a", ("b", [1, []]), [[None]]]
                    values = [handed if other == at else other for other in range(len(attributes))]
                    kept = getattr(getattr(errors, name)(*values), attribute)
                    handed[1][1].append(2)
                    handed.append("c")
                    self.assertEqual(kept, ("a", ("b", (1, ())), ((None,),)))
                    self.assertEqual(handed, ["a", ("b", [1, [], 2]), [[None]], "c"])


if __name__ == "__main__":
    unittest.main()
