import itertools
import unittest
from random import Random

from deepcuts.errors import BadText, NoPlace
from deepcuts.forests import Forest, chain
from deepcuts.labels import Labels
from deepcuts.pipelines import Pipeline
from deepcuts.steps import Step
from tests.pipes import (STRANGE, drawn_forest, drawn_pipeline, drawn_step, labels_told, many_steps, places_in, run,
                         short_paths, untagged)
from tests.things import all_trees, path_of, row_of, scrambled

MANY = 10 ** 39 + 7
POOL = ["drop a", "drop * - a b", "unwrap a", "unwrap b", "unwrap *", "cut 1", "cut 2", "rename a=b", "rename a=b b=a",
        "drop -", "rename b=c"]


class Making(unittest.TestCase):
    def agrees(self, pipeline, forest):
        rows = run(pipeline, forest.trees)
        self.assertEqual(pipeline(forest).trees, untagged(rows), (pipeline.text, forest.text))
        self.assertEqual(pipeline.places(forest), places_in(rows), (pipeline.text, forest.text))
        self.assertIsInstance(pipeline.places(forest), tuple)

    def test_all_short_ones_on_small_forests(self):
        forests = [Forest(trees) for trees in all_trees(3, "ab")] + [Forest.of("a(b(a(b)))"), Forest.of("b(a b(c(a)))")]
        for many in range(3):
            for texts in itertools.product(POOL, repeat=many):
                pipeline = Pipeline([Step.of(text) for text in texts])
                for forest in forests[::1 if many < 2 else 5]:
                    self.agrees(pipeline, forest)

    def test_drawn_ones_go_step_after_step(self):
        random = Random(5)
        for _ in range(1500):
            pipeline = drawn_pipeline(random, list("abc"), 8)
            forest = drawn_forest(random, 25, list("abcd"))
            self.agrees(pipeline, forest)
            out = forest
            for step in pipeline.steps:
                out = step(out)
            self.assertEqual(pipeline(forest), out)

    def test_no_step_and_no_node(self):
        forest = Forest.of("a(b c(d)) e")
        for pipeline in (Pipeline(), Pipeline(()), Pipeline([]), Pipeline.of("-")):
            self.assertEqual((pipeline(forest), pipeline.places(forest)), (forest, (0, 1, 2, 3, 4)))
            self.assertEqual((pipeline.steps, pipeline.text, len(pipeline)), ((), "-", 0))
        for text in POOL:
            self.assertEqual(Pipeline.of(text)(Forest()), Forest())
            self.assertEqual(Pipeline.of(text).places(Forest()), ())

    def test_a_step_finds_a_label_under_its_later_name(self):
        self.assertEqual(Pipeline.of("rename a=b; drop b")(Forest.of("a b c(a)")).text, "c")
        self.assertEqual(Pipeline.of("rename a=b; drop a")(Forest.of("a b c(a)")).text, "b b c(b)")
        self.assertEqual(Pipeline.of("rename a=b; rename b=c; unwrap c")(Forest.of("a(x) b(y) c(z)")).text, "x y z")
        self.assertEqual(Pipeline.of("rename a=b b=a; unwrap a; rename b=a")(Forest.of("a(b(a))")).text, "a(a)")

    def test_bounds(self):
        names, pipeline = many_steps(0)
        self.assertEqual(len(pipeline), 40)
        wide = Forest(row_of(names[0], 100) + tuple([(name, ()) for name in names] * 5))
        deep = Forest(path_of((names + names)[:60]) * 5)
        for forest in (wide, deep):
            self.assertEqual(len(forest), 300)
            self.agrees(pipeline, forest)
        self.assertEqual(deep.depth, 60)
        self.assertEqual(Pipeline((Step("cut", 10 ** 40),) * 40)(deep), deep)


class Told(unittest.TestCase):
    def test_steps_text_and_length(self):
        steps = (Step("cut", MANY), Step("rename", (("a", "b"),)), Step("drop", Labels()),
                 Step("drop", Labels((), True)))
        pipeline = Pipeline(steps)
        self.assertEqual(pipeline.steps, steps)
        self.assertIsInstance(pipeline.steps, tuple)
        self.assertEqual(pipeline.text, f"cut {MANY}; rename a=b; drop -; drop *")
        self.assertEqual((len(pipeline), Pipeline.of("cut 1").text), (4, "cut 1"))

    def test_places(self):
        pipeline = Pipeline.of("cut 2; drop a; unwrap b")
        self.assertEqual([pipeline[at].text for at in range(3)], ["cut 2", "drop a", "unwrap b"])

    def test_just_beyond_either_end(self):
        for text, many in (("-", 0), ("cut 2", 1), ("cut 2; drop a; unwrap b", 3)):
            for place in (-1, many, -many - 1, many + 1, 10 ** 40, -10 ** 40):
                with self.subTest(text=text, place=place), self.assertRaises(NoPlace) as caught:
                    Pipeline.of(text)[place]
                self.assertEqual(vars(caught.exception), {"place": place})

    def test_no_iteration(self):
        for pipeline in (Pipeline(), Pipeline.of("cut 2; drop a")):
            for go in (iter, list, tuple, sorted, set):
                with self.assertRaises(TypeError):
                    go(pipeline)
            with self.assertRaises(TypeError):
                for _ in pipeline:
                    pass
            with self.assertRaises(TypeError):
                Step.of("cut 2") in pipeline

    def test_no_setters(self):
        pipeline, other = Pipeline.of("cut 2; drop a"), Pipeline.of("rename a=b")
        for name in ("steps", "text", "form", "left", "depth", "plain"):
            with self.assertRaises(AttributeError):
                setattr(pipeline, name, getattr(other, name))
        self.assertEqual(pipeline.text, "cut 2; drop a")

    def test_nothing_changes(self):
        p, q, forest = Pipeline.of("cut 2; rename a=b"), Pipeline.of("unwrap b; cut 3"), Forest.of("a(b c(d)) e")
        step = Step.of("drop a")

        def made():
            done = [p(forest), p.places(forest), p >> q, p >> step, p * 3, p & q, p | q, p.plain, p == q, p.within(q)]
            return done + [p.room("a"), p.final("a"), p.form, p.left, p.depth, p[1], len(p), p.steps, p.text]

        self.assertEqual(made(), made())
        self.assertEqual((p.text, q.text, forest.text), ("cut 2; rename a=b", "unwrap b; cut 3", "a(b c(d)) e"))
        self.assertEqual(step.text, "drop a")

    def test_lists_that_change_afterwards(self):
        names, pairs = ["b", "a"], [["c", "a"], ["a", "c"]]
        steps = [Step("drop", Labels(names)), Step("rename", pairs), Step("cut", 3)]
        handed = list(steps)
        pipeline = Pipeline(handed)
        self.assertEqual(handed, steps)
        self.assertEqual((names, pairs), (["b", "a"], [["c", "a"], ["a", "c"]]))
        told = pipeline.text, pipeline.form, pipeline.steps
        scrambled(names)
        scrambled(pairs)
        scrambled(handed)
        self.assertEqual((pipeline.text, pipeline.form, pipeline.steps), told)
        self.assertEqual(told[0], "drop a b; rename a=c c=a; cut 3")
        self.assertEqual(pipeline(Forest.of("c(c(c(c))) a")).text, "a(a(a))")
        self.assertEqual(Pipeline(steps), Pipeline(tuple(steps)))

    def test_arguments_by_the_names_shown(self):
        pipeline = Pipeline(steps=[Step(kind="cut", what=1)])
        self.assertEqual(pipeline.text, Pipeline.of(text="cut 1").text)
        self.assertEqual(pipeline(forest=chain(("a", "b"))).text, "a")
        self.assertEqual(pipeline.places(forest=chain(("a", "b"))), (0,))
        self.assertEqual((pipeline.room(label="a"), pipeline.final(label="a")), (0, "a"))
        self.assertIs(pipeline.within(q=Pipeline()), True)


class Texts(unittest.TestCase):
    def test_back_and_forth(self):
        texts = ["-", "cut 1", "drop -", "drop -; drop -", "unwrap * - a b; cut 10; rename a=b b=a",
                 "rename -; unwrap *"]
        for text in texts + [f"cut {MANY}", "; ".join(POOL), "; ".join(["drop a"] * 40)]:
            self.assertEqual(Pipeline.of(text).text, text)
            self.assertEqual(Pipeline.of(text).steps, () if text == "-" else tuple(map(Step.of, text.split("; "))))

    def test_drawn_ones_back_and_forth(self):
        random = Random(6)
        for _ in range(300):
            pipeline = drawn_pipeline(random, list("abcd"))
            self.assertEqual(Pipeline.of(pipeline.text).steps, pipeline.steps)

    def test_texts_that_are_none(self):
        wrong = ["", " ", "*", "; ", ";", "-; -", "-; cut 1", "cut 1; -", "cut 1;", "cut 1; ", "; cut 1", ";cut 1",
                 "cut 1;cut 2"]
        wrong += ["cut 1 ; cut 2", "cut 1;  cut 2", " cut 1", "cut 1 ", "cut 1\n", "cut 1; \ncut 2", "cut 1, cut 2",
                  "cut 1. cut 2"]
        wrong += ["cut 1; cut 0", "cut 0; cut 1", "cut 01", "drop b a; cut 1", "cut 1; drop", "cut 1; rename a=a",
                  "(cut 1)"]
        wrong += ["(cut 1) x 2", "cut 1; keep a", "cut 1;; cut 2", "cut 1: cut 2", "cut 1; cut", "- ", "--",
                  "cut 1 cut 2", "cut"]
        for text in wrong:
            with self.subTest(text=text), self.assertRaises(BadText) as caught:
                Pipeline.of(text)
            self.assertEqual(vars(caught.exception), {})


class Joining(unittest.TestCase):
    def test_behind_one_another(self):
        random = Random(7)
        for _ in range(300):
            p, q = drawn_pipeline(random, list("abc")), drawn_pipeline(random, list("abc"))
            step = drawn_step(random, list("abc"), 4)
            self.assertEqual((p >> q).steps, p.steps + q.steps)
            self.assertEqual((p >> step).steps, p.steps + (step,))
            forest = drawn_forest(random, 12, list("abc"))
            self.assertEqual((p >> q)(forest), q(p(forest)))
            self.assertEqual((p >> step)(forest), step(p(forest)))

    def test_without_steps(self):
        p = Pipeline.of("cut 2; drop a")
        self.assertEqual((p >> Pipeline()).text, p.text)
        self.assertEqual((Pipeline() >> p).text, p.text)
        self.assertEqual((Pipeline() >> Step.of("drop -")).text, "drop -")
        self.assertIsInstance(p >> Step.of("cut 1"), Pipeline)


class Times(unittest.TestCase):
    def test_as_often_as_told(self):
        random = Random(8)
        for _ in range(400):
            p = drawn_pipeline(random, list("abcd"), 4)
            whole = Pipeline()
            for times in range(7):
                made = p * times
                self.assertEqual(made, whole, (p.text, times))
                self.assertEqual(made.text, made.plain.text)
                whole = whole >> p

    def test_none_at_all(self):
        for text in ("-", "drop *", "cut 1; unwrap a", "rename a=b b=a", f"cut {MANY}"):
            self.assertEqual((Pipeline.of(text) * 0).text, "-")

    def test_forty_digits(self):
        ring = Pipeline.of("rename a=b b=c c=d d=e e=a x=y y=x")
        for times in (10 ** 40, 10 ** 40 - 1, MANY, 3 * 10 ** 39 + 3):
            self.assertEqual((ring * times).text, (ring * (times % 10)).text)
        self.assertEqual(ring * 10 ** 40, Pipeline())
        self.assertNotEqual(ring * (10 ** 40 + 1), Pipeline())
        self.assertEqual((Pipeline.of("rename a=b b=c c=d; cut 7; unwrap d") * MANY).text, "cut 7; unwrap a b c d")
        self.assertEqual((Pipeline.of(f"cut {MANY}; unwrap a") * 10 ** 40).text, f"cut {MANY}; unwrap a")
        self.assertEqual((Pipeline() * 10 ** 40).text, "-")
        self.assertEqual((Pipeline.of("drop * - a; rename a=b") * MANY).text, "drop *")
        self.assertEqual((Pipeline.of("drop * - a; rename a=b") * 1).text, "drop * - a; rename a=b")

    def test_forty_names_in_rings(self):
        names, _ = many_steps(0)
        pairs, at = [], 0
        for size in (5, 7, 8, 9, 11):
            ring, at = names[at:at + size], at + size
            pairs += zip(ring, ring[1:] + ring[:1])
        turn = Pipeline([Step("rename", pairs)])
        self.assertEqual((turn * 27720).text, "-")
        self.assertEqual((turn * (27720 * 10 ** 35 + 1)).text, turn.text)
        self.assertEqual(turn * 10 ** 40, turn * (10 ** 40 % 27720))
        self.assertNotEqual(turn * 13860, Pipeline())


class Alike(unittest.TestCase):
    def test_equal_exactly_if_no_short_path_parts_them(self):
        random = Random(9)
        alike = 0
        for _ in range(700):
            p, q = drawn_pipeline(random, list("ab"), 4, 3), drawn_pipeline(random, list("ab"), 4, 3)
            if random.random() < 0.5:
                q = Pipeline(p.steps + q.steps[:1])
            # Rooms are at most 2: two nodes more than that tell one room from another one.
            paths = [path_of(path) for path in short_paths(["a", "b", STRANGE], 4)]
            same = all(untagged(run(p, path)) == untagged(run(q, path)) for path in paths)
            self.assertIs(p == q, same, (p.text, q.text))
            self.assertIs(p != q, not same)
            self.assertIs(p == q, p.form == q.form)
            alike += same
        self.assertGreater(alike, 100)

    def test_alike_ones_make_the_same_of_drawn_forests(self):
        random = Random(10)
        for _ in range(400):
            p = drawn_pipeline(random, list("abc"), 8)
            for forest in [drawn_forest(random, 30, labels_told(p) + ["a", "b"]) for _ in range(4)]:
                self.assertEqual(p.plain(forest), p(forest))
                self.assertEqual(p.plain.places(forest), p.places(forest))

    def test_some_that_are_alike(self):
        rows = [("cut 1; unwrap b", "drop b; cut 1"), ("unwrap a; drop * - a", "drop *"), ("rename -", "-"),
                ("drop -", "-"),
                ("cut 2; cut 7", "cut 2"), ("drop a; unwrap a", "drop a"), ("unwrap a; drop a", "unwrap a"),
                ("rename a=b; drop b", "drop a b"), ("rename a=b b=a; rename a=b b=a", "-"), ("unwrap *", "drop *"),
                ("cut 3; drop *", "unwrap *; cut 2"), ("rename a=b; rename b=a", "rename b=a"),
                ("drop * - a; rename b=c", "drop * - a"), (f"cut {MANY}; cut {MANY + 1}", f"cut {MANY}")]
        for one, other in rows:
            self.assertIs(Pipeline.of(one) == Pipeline.of(other), True, (one, other))
            self.assertIs(Pipeline.of(one) != Pipeline.of(other), False)

    def test_some_that_are_not(self):
        rows = [("cut 2; unwrap b", "unwrap b; cut 2"), ("cut 2", "cut 3"), ("rename a=b", "rename a=c"),
                ("drop a", "unwrap a"),
                ("drop a", "drop b"), ("-", "drop a"), ("drop *", "drop * - a"), (f"cut {MANY}", f"cut {MANY + 1}"),
                (f"cut {MANY}", "-"), ("drop a; unwrap b", "unwrap a; drop b"), ("rename a=b b=a", "-")]
        for one, other in rows:
            self.assertIs(Pipeline.of(one) == Pipeline.of(other), False, (one, other))
            self.assertIs(Pipeline.of(one) != Pipeline.of(other), True)

    def test_a_pipeline_equals_nothing_else(self):
        for pipeline in (Pipeline(), Pipeline.of("cut 2"), Pipeline.of("drop *")):
            things = [None, True, False, 0, 1, "-", "", (), [], pipeline.form, pipeline.steps, pipeline.text,
                      pipeline.left]
            things += [list(pipeline.steps), pipeline.depth, Step.of("cut 2"), Labels(), Labels((), True), Forest(),
                       object()]
            for thing in things:
                self.assertIs(pipeline == thing, False)
                self.assertIs(thing == pipeline, False)


if __name__ == "__main__":
    unittest.main()
