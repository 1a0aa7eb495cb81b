import itertools
import unittest
from random import Random

from deepcuts.forests import Forest
from deepcuts.forms import pipeline_of
from deepcuts.order import both_forest, compare, more_forest, outside_forest, parting_forest
from deepcuts.pipelines import Pipeline
from deepcuts.steps import Step
from tests.pipes import (STRANGE, drawn_forest, drawn_pipeline, is_within, labels_told, many_steps, stays_by_rooms,
                         valid_forms)

MANY = 10 ** 39 + 7
NOTHING = Pipeline.of("drop *")


def pairs(seed, many, letters="abc", most=5):
    """Drawn pairs of Pipelines, some of which are within one another, alike, or alike but for names."""
    random = Random(seed)
    for _ in range(many):
        p, q = drawn_pipeline(random, list(letters), 6, most), drawn_pipeline(random, list(letters), 6, most)
        way = random.randint(0, 5)
        if way == 0:
            q = p >> q
        elif way == 1:
            p = q >> p
        elif way == 2:
            q = p.plain >> drawn_pipeline(random, list(letters), 1, most)
        yield p, q


def renamed_nowhere(pipeline):
    return all(last in (None, name) for name, last, _ in pipeline.form[0])


def chains(labels, most, many_labels=2):
    """Paths as pairs (counts of labels above, last label), each as one path."""
    for lot in itertools.combinations(labels, min(many_labels, len(labels))):
        for counts in itertools.product(range(most + 1), repeat=len(lot)):
            above = tuple([name for name, many in zip(lot, counts) for _ in range(many)])
            for last in labels:
                yield above + (last,)


class Within(unittest.TestCase):
    def test_label_by_label(self):
        seen = {True: 0, False: 0}
        for p, q in pairs(21, 1500):
            self.assertIs(p.within(q), is_within(p, q), (p.text, q.text))
            seen[p.within(q)] += 1
        self.assertGreater(min(seen.values()), 200)

    def test_as_single_paths_show(self):
        for p, q in pairs(22, 150, "ab", 3):
            paths = list(chains(["a", "b", STRANGE], 4))
            shown = all(stays_by_rooms(q, path) for path in paths if stays_by_rooms(p, path))
            self.assertIs(p.within(q), shown, (p.text, q.text))

    def test_no_more_nodes_come_out_of_what_is_within(self):
        random = Random(23)
        for p, q in pairs(23, 500):
            if p.within(q):
                for _ in range(3):
                    forest = drawn_forest(random, 25, ["a", "b", "c", STRANGE])
                    self.assertLessEqual(set(p.places(forest)), set(q.places(forest)))
                    self.assertLessEqual(len(p(forest)), len(q(forest)))

    def test_edges(self):
        for p in (Pipeline(), NOTHING, Pipeline.of("cut 1"), Pipeline.of("drop a"), Pipeline.of("rename a=b b=a")):
            self.assertIs(NOTHING.within(p), True)
            self.assertIs(p.within(Pipeline()), True)
            self.assertIs(p.within(p), True)
            self.assertIs(p.within(NOTHING), p == NOTHING)
        self.assertIs(Pipeline.of(f"cut {MANY}").within(Pipeline.of(f"cut {MANY + 1}")), True)
        self.assertIs(Pipeline.of(f"cut {MANY + 1}").within(Pipeline.of(f"cut {MANY}")), False)
        self.assertIs(Pipeline.of("drop a").within(Pipeline.of("unwrap a")), True)
        self.assertIs(Pipeline.of("unwrap a").within(Pipeline.of("cut 9; unwrap a")), False)

    def test_compare(self):
        words = {(True, True): "places", (True, False): "within", (False, True): "around", (False, False): "neither"}
        seen = set()
        for p, q in pairs(24, 600):
            wanted = "alike" if p == q else words[is_within(p, q), is_within(q, p)]
            self.assertEqual(compare(p, q), wanted)
            seen.add(wanted)
        self.assertEqual(len(seen), 5)
        self.assertEqual(compare(Pipeline.of("rename a=b"), Pipeline.of("rename a=c")), "places")
        self.assertEqual(compare(Pipeline.of("cut 1; unwrap b"), Pipeline.of("drop b; cut 1")), "alike")
        self.assertEqual(compare(p=NOTHING, q=Pipeline()), "within")


class Bounds(unittest.TestCase):
    """p & q is the greatest one within both, p | q the least one around both."""

    def told(self, p, q, small):
        low, high = p & q, p | q
        for made in (low, high):
            self.assertTrue(renamed_nowhere(made))
            self.assertEqual(made.text, made.plain.text)
        self.assertTrue(is_within(low, p) and is_within(low, q), (p.text, q.text))
        self.assertTrue(is_within(p, high) and is_within(q, high), (p.text, q.text))
        for z in small:
            if is_within(z, p) and is_within(z, q):
                self.assertTrue(is_within(z, low), (p.text, q.text, z.text))
            if is_within(p, z) and is_within(q, z):
                self.assertTrue(is_within(high, z), (p.text, q.text, z.text))
        self.assertEqual((low, high), (q & p, q | p))

    def test_all_small_ones(self):
        small = [pipeline_of(form) for form in valid_forms("a", [0, 1, 2, 3, None])]
        for p, q in itertools.product(small, repeat=2):
            self.told(p, q, small)

    def test_two_names(self):
        small = [pipeline_of(form) for form in valid_forms("ab", [0, 1, 2, None])]
        random = Random(25)
        for _ in range(150):
            self.told(random.choice(small), random.choice(small), small)

    def test_with_renames(self):
        small = [pipeline_of(form) for form in valid_forms("ab", [0, 1, 2, 3, None])]
        for p, q in pairs(26, 80, "ab", 4):
            self.told(p, q, small)

    def test_edges(self):
        for p in (Pipeline(), NOTHING, Pipeline.of("cut 1"), Pipeline.of("drop a; cut 3; unwrap b")):
            self.assertEqual((p & NOTHING, p | NOTHING), (NOTHING, p))
            self.assertEqual((p & Pipeline(), p | Pipeline()), (p, Pipeline()))
            self.assertEqual((p & p, p | p), (p, p))
        one, other = Pipeline.of("drop * - a"), Pipeline.of("drop a")
        self.assertEqual(((one & other).text, (one | other).text), ("drop *", "-"))
        one, other = Pipeline.of("rename a=b; cut 3; unwrap c"), Pipeline.of("rename a=b; cut 5; unwrap d")
        self.assertEqual((one & other).text, "cut 3; unwrap c d")
        self.assertEqual((one | other).text, "cut 5")
        one, other = Pipeline.of(f"cut {MANY}; unwrap a"), Pipeline.of(f"unwrap a; cut {MANY + 1}")
        self.assertEqual(((one & other).text, (one | other).text), (one.text, f"unwrap a; cut {MANY + 1}"))

    def test_forty_names(self):
        (names, p), (_, q) = many_steps(0), many_steps(1)
        for label in names + [STRANGE]:
            self.assertIs(label in (p & q).left, label in p.left and label in q.left)
            self.assertIs(label in (p | q).left, label in p.left or label in q.left)
        self.assertTrue((p & q).within(p) and (p & q).within(q) and p.within(p | q) and q.within(p | q))


class Forests(unittest.TestCase):
    """What is handed back does what is told of it; where None is, there is none."""

    def one_path(self, forest, most, labels):
        self.assertIsInstance(forest, Forest)
        self.assertEqual(forest.depth, len(forest))
        self.assertLessEqual(len(forest), most)
        self.assertLessEqual(len(forest.names), labels)

    def told(self, p, q):
        far = parting_forest(p, q)
        self.assertIs(far is None, p == q)
        if far is not None:
            self.one_path(far, 52, 2)
            self.assertNotEqual(p(far), q(far), (p.text, q.text))
        beyond, most = outside_forest(p, q), more_forest(p, q)
        self.assertIs(beyond is None, is_within(p, q), (p.text, q.text))
        self.assertIs(most is None, is_within(p, q))
        if beyond is not None:
            self.one_path(beyond, 52, 2)
            self.assertTrue(set(p.places(beyond)) - set(q.places(beyond)), (p.text, q.text))
            self.assertLessEqual(len(most), 103)
            self.assertLessEqual(len(most.names), 2)
            self.assertGreater(len(p(most)), len(q(most)), (p.text, q.text))
        self.both_told(p, q)

    def both_told(self, p, q):
        both = both_forest(p, q)
        if both is not None:
            self.one_path(both, 52, 3)
            kept = set(p.places(both)) & set(q.places(both))
            self.assertTrue(kept - set((p & q).places(both)), (p.text, q.text))
        return both

    def test_drawn_pairs(self):
        for p, q in pairs(27, 600):
            self.told(p, q)

    def test_drawn_pairs_with_great_rooms(self):
        for p, q in pairs(28, 300, "abcd", 51):
            self.told(p, q)

    def test_all_pairs_of_small_forms(self):
        small = [pipeline_of(form) for form in valid_forms("a", [0, 1, 2, None], ["a", "b"])]
        for p, q in itertools.product(small, repeat=2):
            self.told(p, q)

    def test_rooms_of_fifty(self):
        one, other = "unwrap a; cut 51; unwrap b; cut 1", "unwrap b; cut 51; unwrap a; cut 1"
        texts = ["cut 51", "cut 50", "-", "cut 51; unwrap a", "cut 51; unwrap a; cut 50", "unwrap a; cut 50"]
        texts += ["cut 51; unwrap a; cut 1", "unwrap a; cut 1", "drop a; cut 51", "unwrap a b; cut 51; unwrap c"]
        texts += ["cut 51; unwrap a; cut 2; unwrap b; cut 1", "cut 51; rename a=b", "drop *", one, other]
        made = [Pipeline.of(text) for text in texts]
        for p, q in itertools.product(made, repeat=2):
            self.told(p, q)
        self.assertEqual(len(outside_forest(made[2], made[0])), 52)
        self.assertIsNotNone(self.both_told(Pipeline.of(one), Pipeline.of(other)))

    def test_what_is_left_parts_ahead_of_rooms(self):
        p, q = Pipeline.of("unwrap x; rename a=b"), Pipeline.of("rename x=b; cut 1")
        self.told(p, q)
        self.told(q, p)

    def test_both_is_none_only_where_there_is_none(self):
        random = Random(29)
        some = 0
        for _ in range(200):
            # The same cuts and unwraps in two orders.
            texts = [f"cut {random.randint(1, 5)}" for _ in range(3)]
            texts += ["unwrap a", "unwrap b", "drop c; rename a=b"][:random.randint(2, 3)]
            p, q = [Pipeline.of("; ".join(random.sample(texts, len(texts)))) for _ in range(2)]
            both = self.both_told(p, q)
            labels = labels_told(p, q)
            paths = chains(labels, 4)
            meet = p & q
            kept = any(stays_by_rooms(p, path) and stays_by_rooms(q, path) and not stays_by_rooms(meet, path)
                       for path in paths)
            self.assertIs(both is not None, kept, (p.text, q.text))
            some += kept
        self.assertGreater(some, 5)

    def test_crossed_rooms(self):
        rooms = [1, 2, 3, 4, None]
        crossed = 0
        for first, second, third, fourth in itertools.product(rooms, repeat=4):
            p = pipeline_of(((("x", None, first), ("y", None, second)), (True, 0)))
            q = pipeline_of(((("x", None, third), ("y", None, fourth)), (True, 0)))
            both = self.both_told(p, q)
            paths = chains(["x", "y"], 6)
            kept = any(stays_by_rooms(p, path[:-1] + ("a",)) and stays_by_rooms(q, path[:-1] + ("a",))
                       and not stays_by_rooms(p & q, path[:-1] + ("a",)) for path in paths)
            self.assertIs(both is not None, kept, (p.text, q.text))
            crossed += kept
        self.assertGreater(crossed, 20)

    def test_nothing_in_common_and_nothing_left(self):
        crossed = ("cut 6; unwrap y; cut 2; unwrap x; cut 1", "cut 6; unwrap x; cut 2; unwrap y; cut 1")
        one, other = [Pipeline.of(text) for text in crossed]
        self.assertIsNotNone(both_forest(one, other))
        apart = one >> Pipeline.of("drop * - a"), other >> Pipeline.of("drop a")
        for p, q in (apart, (one, NOTHING), (NOTHING, other)):
            self.assertIsNone(both_forest(p, q))

    def test_rest_of_labels(self):
        # What differs is only told of the labels that no step tells.
        for p, q in (("unwrap * - a", "drop * - a"), ("drop * - a", "-"),
                     ("cut 3; unwrap * - a", "cut 2; unwrap * - a")):
            self.told(Pipeline.of(p), Pipeline.of(q))
            self.told(Pipeline.of(q), Pipeline.of(p))

    def test_all_names_of_one_letter_told(self):
        letters = "abcdefghijklmnopqrstuvwxyz"
        unwrap = Step.of("unwrap * - " + " ".join(letters))
        p, q = Pipeline((Step("cut", 2), unwrap)), Pipeline((unwrap, Step("cut", 2)))
        self.told(p, q)
        self.told(q, p)

    def test_arguments_by_the_names_shown_and_like_answers(self):
        p, q = Pipeline.of("cut 2; unwrap b"), Pipeline.of("unwrap b; cut 2")
        for function in (parting_forest, outside_forest, more_forest, both_forest):
            self.assertEqual(function(p=q, q=p), function(q, p))
            self.assertEqual(function(q=Pipeline(q.steps), p=Pipeline(p.steps)), function(p, q))
        self.assertEqual((p.text, q.text), ("cut 2; unwrap b", "unwrap b; cut 2"))


if __name__ == "__main__":
    unittest.main()
