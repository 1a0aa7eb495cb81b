import unittest
from random import Random

from deepcuts.errors import NothingOpen
from deepcuts.forests import Forest
from deepcuts.labels import Labels
from deepcuts.pipelines import Pipeline
from deepcuts.sources import Live
from tests.pipes import drawn_forest, drawn_pipeline, high, labels_told, many_steps, stays_by_rooms
from tests.things import path_of, row_of

MANY = 10 ** 40
PIPELINE = Pipeline.of("cut 5; unwrap b; cut 2; drop x; rename c=a")


def read(live, forest):
    """Reads a Forest, and gives what begin returned for each node."""
    told = []
    for place in range(len(forest)):
        while len(live.names) >= len(forest.path(place)):
            live.end()
        told.append(live.begin(forest[place]))
    return told


def state_of(live):
    return live.names, live.out, len(live), live.pipeline.text


class Reading(unittest.TestCase):
    def test_node_by_node_what_the_pipeline_makes_of_the_whole(self):
        random = Random(101)
        for _ in range(600):
            pipeline, forest = drawn_pipeline(random, list("abc")), drawn_forest(random, 20, list("abcd"))
            live = Live(pipeline)
            told = read(live, forest)
            kept = pipeline.places(forest)
            wanted = [pipeline.final(forest[place]) if place in kept else None for place in range(len(forest))]
            self.assertEqual(told, wanted, (pipeline.text, forest.text))
            self.assertEqual(live.out, pipeline(forest), (pipeline.text, forest.text))
            self.assertEqual(len(live), len(forest))
            self.assertEqual(live.names, forest.path(len(forest) - 1) if len(forest) else ())

    def test_all_states_on_the_way(self):
        random = Random(102)
        for _ in range(150):
            pipeline = drawn_pipeline(random, list("abc"), 5)
            live, path, begun, trees = Live(pipeline), [], [], []
            for _ in range(15):
                if path and random.random() < 0.4:
                    self.assertEqual(live.end(), path.pop())
                else:
                    name = random.choice("abcz")
                    path.append(name)
                    begun.append((len(path), name))
                    wanted = pipeline.final(name) if stays_by_rooms(pipeline, tuple(path)) else None
                    self.assertEqual(live.may(name), wanted)
                    self.assertEqual(live.begin(name), wanted)
                self.assertEqual((live.names, len(live)), (tuple(path), len(begun)))
                trees = forest_of(begun)
                self.assertEqual(live.out, pipeline(trees), (pipeline.text, trees.text))

    def test_at_first(self):
        live = Live(PIPELINE)
        self.assertEqual((live.names, live.out, len(live)), ((), Forest(), 0))
        self.assertEqual(live.pipeline.text, PIPELINE.text)
        self.assertEqual((live.may("a"), live.may("b"), live.begins().text, live.most("b")), ("a", None, "* - x", 4))

    def test_nothing_open(self):
        live = Live(PIPELINE)
        for _ in range(3):
            with self.assertRaises(NothingOpen) as caught:
                live.end()
            self.assertEqual(vars(caught.exception), {})
            before = state_of(live)
            live.begin("b")
            self.assertEqual(live.end(), "b")
            self.assertEqual((live.names, live.out), before[:2])
        self.assertEqual(len(live), 3)

    def test_end_tells_the_name_with_which_the_node_began(self):
        live = Live(PIPELINE)
        self.assertEqual((live.begin("c"), live.begin("x"), live.begin("a")), ("a", None, None))
        self.assertEqual(live.names, ("c", "x", "a"))
        self.assertEqual((live.end(), live.end(), live.end()), ("a", "x", "c"))
        self.assertEqual(live.out.text, "a")

    def test_nothing_is_changed_by_asking(self):
        live = Live(PIPELINE)
        for name in ("b", "c", "x"):
            live.begin(name)
            before = state_of(live)
            told = [(live.may(one), live.most(one), live.begins().text) for one in "abcxz" for _ in range(2)]
            self.assertEqual(state_of(live), before)
            self.assertEqual(told[::2], told[1::2])

    def test_no_setters(self):
        live = Live(PIPELINE)
        for name in ("pipeline", "names", "out"):
            with self.assertRaises(AttributeError):
                setattr(live, name, getattr(live, name))

    def test_three_hundred_nodes(self):
        names, pipeline = many_steps(0)
        for forest in (Forest(path_of((names + names)[:60]) * 5), Forest(row_of("zz", 300))):
            live = Live(pipeline)
            read(live, forest)
            self.assertEqual(live.out, pipeline(forest))
            self.assertEqual(len(live), 300)


def forest_of(begun):
    """The Forest of rows (depth, name)."""
    built = []
    for depth, name in reversed(begun):
        lower = []
        while built and built[-1][0] > depth:
            lower.append(built.pop()[1])
        built.append((depth, (name, tuple(lower))))
    return Forest(tuple(tree for _, tree in reversed(built)))


class Beneath(unittest.TestCase):
    """begins and most."""

    def test_by_trying_nodes_beneath(self):
        random = Random(103)
        seen = set()
        for _ in range(700):
            pipeline = drawn_pipeline(random, list("abc"), 6, 7)
            path = tuple(random.choice("abcz") for _ in range(random.randint(0, 5)))
            live = Live(pipeline)
            for name in path:
                live.begin(name)
            labels = labels_told(pipeline) + ["a", "b", "c"]
            left = [name for name in labels if pipeline.final(name) is not None]
            begins = live.begins()
            for name in labels:
                told = any(stays_by_rooms(pipeline, path + (name, last)) for last in left)
                self.assertIs(name in begins, told, (pipeline.text, path, name))
                many = 0
                while many < 12 and any(stays_by_rooms(pipeline, path + (name,) * (many + 1) + (last,)) for last in left):
                    many += 1
                wanted = None if many == 12 else many
                self.assertEqual(live.most(name), wanted, (pipeline.text, path, name))
                seen.add(wanted)
        self.assertEqual(seen, {None, 0, 1, 2, 3, 4, 5, 6})

    def test_edges(self):
        rows = [("-", (), "*", None), ("-", ("a", "b"), "*", None), ("drop *", (), "-", 0), ("drop *", ("a",), "-", 0),
                ("cut 1", (), "-", 0), ("cut 2", (), "*", 1), ("cut 2", ("a",), "-", 0), ("drop a", (), "* - a", 0),
                ("drop b", ("b",), "-", 0), ("unwrap a", ("a", "a"), "*", None), ("unwrap a; cut 1", (), "a", None),
                ("unwrap a; cut 1", ("b",), "-", 0), ("cut 3; unwrap a; cut 2", ("b",), "a", 1),
                ("cut 3; unwrap a; cut 2", ("a", "a"), "-", 0), ("cut 3; unwrap a; cut 2", ("a",), "*", 1),
                ("unwrap * - b", (), "*", None), ("cut 2; unwrap * - b; cut 1", (), "* - b", 1)]
        for text, path, begins, most in rows:
            live = Live(Pipeline.of(text))
            for name in path:
                live.begin(name)
            self.assertEqual((live.begins().text, live.most("a")), (begins, most), (text, path))
            self.assertIsInstance(live.begins(), Labels)

    def test_great_numbers(self):
        live = Live(Pipeline.of(f"cut {MANY}; unwrap b; cut {MANY - 5}; unwrap c; cut 60"))
        self.assertEqual((live.most("b"), live.most("c"), live.most("a")), (MANY - 1, MANY - 6, 59))
        live.begin("b")
        self.assertEqual((live.most("b"), live.most("c"), live.most("a")), (MANY - 2, MANY - 6, 59))
        live.begin("c")
        self.assertEqual((live.most("b"), live.most("c"), live.most("a")), (MANY - 3, MANY - 7, 59))
        live.begin("a")
        self.assertEqual((live.most("b"), live.most("c"), live.most("a")), (MANY - 4, MANY - 8, 58))

    def test_a_room_without_end_where_none_can_stay(self):
        live = Live(Pipeline.of("unwrap b; drop c"))
        live.begin("c")
        self.assertEqual((live.most("b"), live.begins().text, live.may("a")), (0, "-", None))
        self.assertEqual(high(Pipeline.of("unwrap b; drop c").room("b")), 10 ** 60)


class Copies(unittest.TestCase):
    def test_each_goes_on_by_itself(self):
        live = Live(PIPELINE)
        live.begin("b")
        live.begin("c")
        other = live.copied()
        self.assertIsInstance(other, Live)
        self.assertEqual(state_of(other), state_of(live))
        live.begin("a")
        self.assertEqual(other.names, ("b", "c"))
        self.assertEqual((other.end(), other.end(), other.begin("d")), ("c", "b", "d"))
        self.assertEqual((live.names, live.out.text, len(live)), (("b", "c", "a"), "a(a)", 3))
        self.assertEqual((other.names, other.out.text, len(other)), (("d",), "a d", 3))
        live.end()
        third = other.copied().copied()
        third.begin("c")
        self.assertEqual((third.out.text, other.out.text, live.out.text), ("a d(a)", "a d", "a(a)"))

    def test_drawn_ones(self):
        random = Random(104)
        for _ in range(100):
            pipeline, forest = drawn_pipeline(random, list("abc")), drawn_forest(random, 12, list("abcd"))
            first = Live(pipeline)
            read(first, forest)
            before = state_of(first)
            other = first.copied()
            while other.names:
                other.end()
            other.begin("a")
            self.assertEqual(state_of(first), before)
            self.assertEqual(other.out, pipeline(forest + Forest.of("a")))

    def test_arguments_by_the_names_shown(self):
        live = Live(pipeline=PIPELINE)
        self.assertEqual((live.may(name="c"), live.most(name="b"), live.begin(name="c")), ("a", 4, "a"))


if __name__ == "__main__":
    unittest.main()
