import itertools
import unittest

from deepcuts.errors import BadStep, BadText
from deepcuts.forests import Forest, chain
from deepcuts.labels import Labels
from deepcuts.steps import Step
from tests.things import all_trees, listed, named, path_of, row_of, scrambled, shapes

LABELS = [Labels(names, rest) for names in ((), ("a",), ("b",), ("a", "b"), ("c",)) for rest in (False, True)]
PAIRS = [(), (("a", "b"),), (("a", "b"), ("b", "a")), (("a", "c"), ("b", "c")), (("c", "a"),), (("b", "b"),)]
STEPS = [(kind, what) for kind in ("drop", "unwrap") for what in LABELS]
STEPS += [("cut", most) for most in (1, 2, 3, 4, 10 ** 40)] + [("rename", what) for what in PAIRS]
MANY = 10 ** 39 + 7


def made(trees, kind, what, depth=1):
    """What a step makes of trees, read off the table of the document."""
    found = ()
    for name, beneath in trees:
        lower = made(beneath, kind, what, depth + 1)
        if kind == "drop":
            found += () if name in what else ((name, lower),)
        elif kind == "unwrap":
            found += lower if name in what else ((name, lower),)
        elif kind == "cut":
            found += ((name, lower),) if depth <= what else ()
        else:
            found += ((dict(what).get(name, name), lower),)
    return found


class Making(unittest.TestCase):
    def test_all_small_forests(self):
        for trees in all_trees(4, "ab"):
            forest = Forest(trees)
            for kind, what in STEPS:
                step = Step(kind, what)
                self.assertEqual(step(forest).trees, made(trees, kind, what), (trees, step.text))
                if kind != "rename":
                    self.assertEqual(forest.only(step.places(forest)), step(forest))
            self.assertEqual(forest.trees, trees)

    def test_places(self):
        for shape in [shape for many in range(5) for shape in shapes(many)]:
            trees = named(shape, iter("abcd"))
            forest = Forest(trees)
            for kind, what in STEPS:
                out = Step(kind, what)(forest)
                stay = Step(kind, what).places(forest)
                if kind == "rename":
                    self.assertEqual(stay, tuple(range(len(forest))))
                else:
                    # Each node has a NAME of its own here, which tells its place.
                    self.assertEqual(stay, tuple(["abcd".index(out[place]) for place in range(len(out))]))

    def test_drop(self):
        forest = Forest.of("a(b(c) a(b)) b(a) c")
        self.assertEqual(Step.of("drop b")(forest).text, "a(a) c")
        self.assertEqual(Step.of("drop * - a b")(forest).text, "a(b a(b)) b(a)")
        self.assertEqual(Step.of("drop *")(forest), Forest())
        self.assertEqual(Step.of("drop -")(forest), forest)
        self.assertEqual(Step.of("drop b").places(forest), (0, 3, 7))

    def test_unwrap(self):
        forest = Forest.of("a(b(c d) a(b)) b(a) c")
        self.assertEqual(Step.of("unwrap b")(forest).text, "a(c d a) a c")
        self.assertEqual(Step.of("unwrap * - c")(forest).text, "c c")
        self.assertEqual(Step.of("unwrap *")(forest), Forest())
        self.assertEqual(Step.of("unwrap -")(forest), forest)
        self.assertEqual(Step.of("unwrap a b").places(forest), (2, 3, 8))

    def test_cut(self):
        forest = Forest.of("a(b(c) d) e(f)")
        texts = [Step("cut", most)(forest).text for most in (1, 2, 3, 4)]
        self.assertEqual(texts, ["a e", "a(b d) e(f)", forest.text, forest.text])
        self.assertEqual(Step("cut", 1).places(forest), (0, 4))

    def test_rename_is_done_all_at_once(self):
        forest = Forest.of("a(b(c)) b")
        self.assertEqual(Step.of("rename a=b b=c c=a")(forest).text, "b(c(a)) c")
        self.assertEqual(Step.of("rename a=b")(forest).text, "b(b(c)) b")
        self.assertEqual(Step.of("rename -")(forest), forest)
        self.assertEqual(Step.of("rename x=a")(forest), forest)
        self.assertEqual(Step.of("rename a=b b=c").places(forest), (0, 1, 2, 3))

    def test_no_node(self):
        for kind, what in STEPS:
            self.assertEqual(Step(kind, what)(Forest()), Forest())
            self.assertEqual(Step(kind, what).places(Forest()), ())

    def test_three_hundred_nodes_and_depth_sixty(self):
        deep, wide = Forest(path_of(["a", "b"] * 30) * 5), Forest(row_of("a", 299) + row_of("b", 1))
        self.assertEqual(Step.of("unwrap b")(deep), Forest(path_of("a" * 30) * 5))
        self.assertEqual(Step.of("drop b")(deep), Forest(row_of("a", 5)))
        self.assertEqual(Step.of("cut 59")(deep).depth, 59)
        self.assertEqual(len(Step.of("cut 59").places(deep)), 295)
        self.assertEqual(Step("cut", 10 ** 40)(deep), deep)
        self.assertEqual(Step.of("rename a=b")(deep), Forest(path_of("b" * 60) * 5))
        self.assertEqual(Step.of("unwrap a")(wide).text, "b")
        self.assertEqual(Step.of("unwrap a").places(wide), (299,))
        self.assertEqual(Step.of("drop b").places(wide), tuple(range(299)))
        self.assertEqual(Step.of("unwrap a")(chain(("a",) * 59 + ("b",))).text, "b")

    def test_a_step_and_its_forest_stay_as_they_were(self):
        forest = Forest.of("a(b c(d)) e")
        for kind, what in STEPS:
            step = Step(kind, what)
            first = step(forest), step.places(forest), step.text
            self.assertEqual((step(forest), step.places(forest), step.text), first)
            self.assertEqual(forest.text, "a(b c(d)) e")
            self.assertEqual(step, Step(kind, what))


class Told(unittest.TestCase):
    def test_kind_and_what(self):
        labels = Labels(("b", "a"), True)
        self.assertEqual((Step("drop", labels).kind, Step("drop", labels).what), ("drop", labels))
        self.assertEqual((Step("unwrap", labels).kind, Step("unwrap", labels).what), ("unwrap", labels))
        self.assertEqual((Step("cut", 10 ** 40).kind, Step("cut", 10 ** 40).what), ("cut", 10 ** 40))
        step = Step("rename", (("c", "a"), ("b", "b"), ("a", "c")))
        self.assertEqual((step.kind, step.what), ("rename", (("a", "c"), ("c", "a"))))

    def test_pairs_of_like_names_are_left_out(self):
        self.assertEqual(Step("rename", (("a", "a"), ("b", "b"))).what, ())
        self.assertEqual(Step("rename", (("a", "a"),)), Step("rename", ()))
        self.assertEqual(Step("rename", ()).what, ())

    def test_equality(self):
        steps = [Step(kind, what) for kind, what in STEPS if what != (("b", "b"),)]
        for (at, a), (place, b) in itertools.product(enumerate(steps), repeat=2):
            self.assertIs(a == b, at == place)
            self.assertIs(a != b, at != place)
        self.assertEqual(Step("rename", (("a", "b"), ("b", "a"))), Step("rename", (("b", "a"), ("c", "c"), ("a", "b"))))
        self.assertNotEqual(Step("cut", 7), Step("cut", 8))
        self.assertNotEqual(Step("drop", Labels()), Step("rename", ()))

    def test_a_step_equals_nothing_else(self):
        for thing in (None, True, 3, "cut 3", ("cut", 3), ["cut", 3], Labels(), Forest(), object()):
            self.assertIs(Step("cut", 3) == thing, False)
            self.assertIs(thing == Step("cut", 3), False)
            self.assertIs(Step("drop", Labels()) == thing, False)

    def test_no_setters(self):
        step = Step("cut", 3)
        for name, value in (("kind", "drop"), ("what", 4), ("text", "cut 4")):
            with self.assertRaises(AttributeError):
                setattr(step, name, value)
        self.assertEqual(step, Step("cut", 3))


class Bad(unittest.TestCase):
    def refused(self, kind, what):
        with self.assertRaises(BadStep) as caught:
            Step(kind, what)
        return caught.exception.given

    def test_kinds_that_are_none(self):
        for kind in ("", "cuts", "Cut", "cut ", " drop", "dr", "drop unwrap", "keep", "-", "renam", "unwraps"):
            for what in (Labels(("a",)), 3, (("a", "b"),), ()):
                given = self.refused(kind, what)
                self.assertEqual(given, (kind, what))
                self.assertIsInstance(given, tuple)

    def test_limits_below_one(self):
        for most in (0, -1, -10 ** 40):
            self.assertEqual(self.refused("cut", most), ("cut", most))
        self.assertEqual(Step("cut", 1).what, 1)

    def test_the_same_first_name_twice(self):
        for pairs in ((("a", "b"), ("a", "c")), (("a", "b"), ("a", "b")), (("a", "a"), ("a", "b")),
                      (("a", "a"), ("a", "a")), (("a", "b"), ("c", "d"), ("a", "a"))):
            self.assertEqual(self.refused("rename", pairs), ("rename", pairs))
            self.assertEqual(self.refused("rename", listed(pairs)), ("rename", pairs))
        self.assertEqual(len(Step("rename", (("a", "c"), ("b", "c"))).what), 2)

    def test_what_the_error_keeps_has_tuples_for_lists(self):
        handed = [["a", "b"], ["a", "c"]]
        given = self.refused("rename", handed)
        self.assertEqual(handed, [["a", "b"], ["a", "c"]])
        scrambled(handed)
        self.assertEqual(given, ("rename", (("a", "b"), ("a", "c"))))
        self.assertEqual(self.refused("swap", [["a", ["b"]], []]), ("swap", (("a", ("b",)), ())))


class Texts(unittest.TestCase):
    def test_texts(self):
        told = {"drop -": ("drop", Labels()), "drop *": ("drop", Labels((), True)), "drop a b": ("drop", Labels(("b", "a")))}
        told["unwrap * - a"] = ("unwrap", Labels(("a",), True))
        told["unwrap cut"] = ("unwrap", Labels(("cut",)))
        told["cut 1"] = ("cut", 1)
        told["cut 10"] = ("cut", 10)
        told[f"cut {MANY}"] = ("cut", MANY)
        told["rename -"] = ("rename", ())
        told["rename a=b"] = ("rename", (("a", "b"), ("c", "c")))
        told["rename a=b ab=a b=a"] = ("rename", (("b", "a"), ("ab", "a"), ("a", "b")))
        for text, (kind, what) in told.items():
            self.assertEqual(Step(kind, what).text, text)
            self.assertEqual(Step.of(text), Step(kind, what))
            self.assertEqual(Step.of(text).kind, kind)

    def test_back_and_forth(self):
        for kind, what in STEPS:
            self.assertEqual(Step.of(Step(kind, what).text), Step(kind, what))

    def test_numbers_that_are_none(self):
        for rest in ("0", "-1", "+1", "01", "00", "1.0", "1e3", "1_0", " 1", "1 ", "", "-", "*", "a", "0x1", "1 2", "1\n"):
            with self.subTest(rest=rest), self.assertRaises(BadText):
                Step.of("cut " + rest)
        for digit in ("\u00b2", "\u0661", "\uff11"):
            with self.assertRaises(BadText):
                Step.of("cut " + digit)

    def test_pairs_that_are_none(self):
        wrong = ["", "a", "a=", "=a", "=", "a==b", "a=b=c", "a =b", "a= b", "a = b", "a-b", "a:b", "a=b b=a ", " a=b"]
        wrong += ["a=b  b=a", "b=a a=b", "a=a", "a=a b=c", "a=b a=b", "a=b a=c", "a=b,b=a", "a=b; b=a", "A=b", "a=B"]
        wrong += ["a=abcdefghi", "abcdefghi=a", "- a=b", "a=b -", "--", "*", "a=*", "a=-", "a=1", "a=b\n", "b=c a=d"]
        for rest in wrong:
            with self.subTest(rest=rest), self.assertRaises(BadText):
                Step.of("rename " + rest)

    def test_labels_that_are_none(self):
        for rest in ("", "b a", "a a", "a  b", " a", "a ", "- a", "* -", "* - ", "* - b a", "*-a", "* a", "A", "1", "a=b"):
            for kind in ("drop", "unwrap"):
                with self.subTest(kind=kind, rest=rest), self.assertRaises(BadText):
                    Step.of(f"{kind} {rest}")

    def test_texts_that_are_none(self):
        wrong = ["", " ", "-", "*", "a", "drop", "unwrap", "cut", "rename", "drop ", "cut ", "rename ", "Drop a", "DROP a"]
        wrong += ["drop  a", "cut  1", "rename  a=b", " drop a", "cut 1 ", "drop\ta", "drop\na", "drop a\n", "dropa", "cut1"]
        wrong += ["a drop", "1 cut", "a=b rename", "drops a", "keep a", "drop 1", "cut a", "rename a b", "drop a=b", "cut -"]
        wrong += ["drop a; cut 1", "drop a;", "cut 1;", "-; cut 1", "drop(a)", "drop (a)", "cut=1", "drop a - b", "drop + a"]
        for text in wrong:
            with self.subTest(text=text), self.assertRaises(BadText):
                Step.of(text)


class Lists(unittest.TestCase):
    def test_lists_for_tuples_at_every_depth(self):
        pairs = (("b", "a"), ("a", "c"), ("d", "d"))
        for handed in (listed(pairs), list(pairs), tuple(listed(pairs))):
            self.assertEqual(Step("rename", handed), Step("rename", pairs))
            self.assertEqual(Step("rename", handed).what, (("a", "c"), ("b", "a")))

    def test_what_is_handed_in_stays_and_may_change_afterwards(self):
        handed = [["b", "a"], ["a", "c"], ["d", "d"]]
        step = Step("rename", handed)
        self.assertEqual(handed, [["b", "a"], ["a", "c"], ["d", "d"]])
        scrambled(handed)
        self.assertEqual(step.what, (("a", "c"), ("b", "a")))
        self.assertEqual(step(chain(("a", "b", "d"))).text, "c(a(d))")
        names = ["a"]
        step = Step("drop", Labels(names))
        scrambled(names)
        self.assertEqual(step.text, "drop a")


class ByName(unittest.TestCase):
    def test_arguments_by_the_names_shown(self):
        step = Step(kind="cut", what=1)
        self.assertEqual(step, Step("cut", 1))
        self.assertEqual(Step(what=[["a", "b"]], kind="rename"), Step.of(text="rename a=b"))
        self.assertEqual(step(forest=chain(("a", "b"))).text, "a")
        self.assertEqual(step.places(forest=chain(("a", "b"))), (0,))


if __name__ == "__main__":
    unittest.main()
