import itertools
import unittest
from random import Random

from deepcuts.errors import NoPlace
from deepcuts.forests import Forest
from deepcuts.labels import Labels
from deepcuts.pipelines import Pipeline
from deepcuts.sources import (can_come, could_stand, how_many_above, labels_above, maybe_places, source, source_with,
                              strange_place, sure_places)
from tests.pipes import (drawn_forest, drawn_pipeline, high, labels_told, many_steps, places_in, run,
                         stays_by_rooms, untagged)
from tests.things import all_trees, path_of, row_of, scrambled

MANY = 10 ** 40
PIPELINE = Pipeline.of("cut 5; unwrap b; cut 2; drop x; rename c=a")
NOTHING = Pipeline.of("drop *")


def finals(pipeline, letters):
    return {pipeline.final(label) for label in labels_told(pipeline) + list(letters)} - {None}


def strange_by_words(pipeline, forest):
    """The least place of a node that can not come out, by the words of the document."""
    known = finals(pipeline, forest.names)
    for place in range(len(forest)):
        if forest[place] not in known or len(forest.path(place)) > high(pipeline.depth):
            return place
    return None


def through(forest, place):
    """How many nodes the longest path through this node has."""
    return max(len(forest.path(at)) for at in (place,) + forest.below(place))


def tags_in_order(rows):
    return [tag for place, _, beneath in rows for tag in [place] + tags_in_order(beneath)]


def stood_above(pipeline, trees):
    """The pair (out, rows): what comes out of trees, and for each of its nodes the labels above that have gone."""
    out = run(pipeline, trees)
    forest = Forest(trees)
    left = set(places_in(out))
    rows = [tuple(sorted(forest[at] for at in forest.above(tag) if at not in left)) for tag in tags_in_order(out)]
    return untagged(out), rows


class Sources(unittest.TestCase):
    def test_it_comes_out_and_has_as_many_nodes(self):
        random = Random(91)
        seen = [0, 0]
        for _ in range(1500):
            pipeline = drawn_pipeline(random, list("abc"), 4)
            forest = drawn_forest(random, 8, list("abcd"))
            if random.random() < 0.5:
                forest = pipeline(forest)
            strange = strange_by_words(pipeline, forest)
            self.assertEqual(strange_place(pipeline, forest), strange, (pipeline.text, forest.text))
            self.assertIs(can_come(pipeline, forest), strange is None)
            found = source(pipeline, forest)
            self.assertIs(found is None, strange is not None)
            seen[found is None] += len(forest) > 0
            if found is not None:
                self.assertEqual(pipeline(found), forest, (pipeline.text, forest.text))
                self.assertEqual(len(found), len(forest))
        self.assertGreater(min(seen), 300)

    def test_there_is_one_exactly_if_it_comes_out_of_some_small_forest(self):
        random = Random(92)
        small = list(all_trees(3, "abz"))
        for _ in range(60):
            pipeline = drawn_pipeline(random, list("ab"), 4, 3)
            made = {untagged(run(pipeline, trees)) for trees in small}
            for trees in random.sample(small, 60):
                self.assertIs(can_come(pipeline, Forest(trees)), trees in made, (pipeline.text, trees))

    def test_edges(self):
        rows = [("-", "-", None), ("drop *", "-", None), ("drop *", "a", 0), ("cut 2", "a(b)", None),
                ("cut 2", "b a(b(c(d))) c", 3), ("cut 2", "b a(b c(d(e)))", 4), ("drop a", "b a", 1), ("unwrap a", "a", 0),
                ("rename a=b", "b b", None), ("rename a=b", "b(c a)", 2), ("rename a=b b=a", "a(b)", None),
                ("rename a=b; drop b", "c(b)", 1), ("rename a=b; drop b", "a", 0), ("drop * - a; rename a=c", "c(c)", None),
                ("drop * - a; rename a=c", "c a", 1), ("cut 1; rename a=b", "b(a)", 1), (f"cut {MANY}", "a(a(a))", None),
                ("rename a=b; rename c=a", "a", None), ("rename a=b; rename c=a", "c", 0)]
        for text, out, strange in rows:
            pipeline, forest = Pipeline.of(text), Forest.of(out)
            self.assertEqual(strange_place(pipeline, forest), strange, (text, out))
            self.assertIs(can_come(pipeline, forest), strange is None)
            if strange is None:
                self.assertEqual(pipeline(source(pipeline, forest)), forest)
            else:
                self.assertIsNone(source(pipeline, forest))
        self.assertEqual(source(NOTHING, Forest()), Forest())

    def test_three_hundred_nodes(self):
        names, pipeline = many_steps(0)
        known = sorted(finals(pipeline, ["zz"]))
        forest = Forest(path_of((known * 60)[:60]) * 5)
        self.assertEqual(pipeline(source(pipeline, forest)), forest)
        self.assertEqual(len(names), 40)
        wide = Forest(row_of("zz", 299) + row_of(names[0], 1))
        self.assertEqual(strange_place(pipeline, wide), strange_by_words(pipeline, wide))


class Stood(unittest.TestCase):
    def test_by_trying_small_forests(self):
        random = Random(93)
        small = [trees for many in range(6) for trees in all_trees(many, "abz")
                 if many == len(Forest(trees)) and (many < 4 or random.random() < 0.1)]
        deep = [path_of(path) for size in (4, 5) for path in itertools.product("abz", repeat=size)]
        seen = 0
        for text in ["unwrap a", "cut 3; unwrap a", "cut 3; unwrap a; cut 2", "cut 4; unwrap a; cut 2; unwrap b; cut 1",
                     "cut 4; unwrap a; cut 3; unwrap b", "drop a; unwrap b", "unwrap * - a b", "cut 3; unwrap * - a",
                     "cut 2; unwrap a; rename z=a"]:
            pipeline = Pipeline.of(text)
            made = {}
            for trees in small + deep:
                out, rows = stood_above(pipeline, trees)
                for place, labels in enumerate(rows):
                    made.setdefault((out, place), set()).add(labels)
            for (out, place), stood in made.items():
                forest = Forest(out)
                for labels in stood:
                    for few in [part for many in range(len(labels) + 1) for part in itertools.combinations(labels, many)]:
                        self.assertIs(could_stand(pipeline, forest, place, few), True, (text, forest.text, place, few))
                if through(forest, place) + 3 <= 5 and len(forest) == through(forest, place):
                    # All paths so deep have been tried.
                    for many in (1, 2, 3):
                        for names in itertools.combinations_with_replacement("abz", many):
                            told = any(contains(labels, names) for labels in stood)
                            self.assertIs(could_stand(pipeline, forest, place, names), told, (text, out, place, names))
                            seen += told
        self.assertGreater(seen, 30)

    def one(self, pipeline, forest, place, names):
        """Checks all that is told of a place of a Forest that has a source, and these names."""
        many = through(forest, place)
        rooms = sorted([high(pipeline.room(name)) for name in names])
        told = all(pipeline.final(name) is None for name in names)
        told = told and all(room >= at for at, room in enumerate(rooms, many))
        self.assertIs(could_stand(pipeline, forest, place, names), told, (pipeline.text, forest.text, place, names))
        found = source_with(pipeline, forest, place, names)
        self.assertIs(found is not None, told)
        if told:
            out, rows = stood_above(pipeline, found.trees)
            self.assertEqual(out, forest.trees)
            self.assertEqual(rows[place], tuple(sorted(names)))
            self.assertEqual(len(found), len(forest) + len(names))
            at = pipeline.places(found)[place]
            self.assertEqual(found.path(at)[len(forest.above(place)):-1], tuple(names))
        return told

    def test_a_source_with_just_these_nodes(self):
        random = Random(94)
        seen = [0, 0]
        for _ in range(1200):
            pipeline = drawn_pipeline(random, list("abcd"), 6, 7)
            forest = pipeline(drawn_forest(random, 9, list("abcz")))
            if len(forest) > 0:
                place = random.randrange(len(forest))
                names = tuple(random.choice("abcd") for _ in range(random.randint(0, 3)))
                seen[self.one(pipeline, forest, place, names)] += 1
                self.one(pipeline, forest, place, names[::-1])
        self.assertGreater(min(seen), 100)

    def test_labels_and_how_many(self):
        random = Random(95)
        seen = set()
        for _ in range(800):
            pipeline = drawn_pipeline(random, list("abcd"), 6, 7)
            forest = pipeline(drawn_forest(random, 9, list("abcz")))
            for place in range(len(forest)):
                labels = labels_above(pipeline, forest, place)
                for name in labels_told(pipeline) + ["a", "b", "c", "d"]:
                    self.assertIs(name in labels, could_stand(pipeline, forest, place, (name,)))
                rooms = [high(pipeline.room(name)) for name in labels_told(pipeline) if pipeline.final(name) is None]
                most = max([0] + [room - through(forest, place) + 1 for room in rooms])
                told = how_many_above(pipeline, forest, place)
                self.assertEqual(told, None if most > 10 ** 50 else most, (pipeline.text, forest.text, place))
                seen.add(told)
        self.assertGreater(len(seen), 5)

    def test_a_number_of_nodes_that_can_be_and_one_more(self):
        forest = Forest.of("a(a) d")
        for place, many in ((0, 3), (1, 3), (2, 4)):
            self.assertEqual(how_many_above(PIPELINE, forest, place), many)
            self.assertTrue(self.one(PIPELINE, forest, place, ("b",) * many))
            self.assertFalse(self.one(PIPELINE, forest, place, ("b",) * (many + 1)))
            self.assertEqual(labels_above(PIPELINE, forest, place).text, "b")
        rows = [("-", "a", 0, "-"), ("drop a", "b", 0, "-"), ("unwrap a", "b(b)", None, "a"),
                ("unwrap a; cut 2", "b(b)", None, "a"), ("cut 3; unwrap a", "b(b(b))", 0, "-"),
                ("cut 4; unwrap a; cut 3", "b(b(b))", 1, "a"), ("unwrap * - b", "b", None, "* - b"),
                ("cut 2; unwrap * - b", "b", 1, "* - b"), ("cut 2; unwrap * - b", "b(b)", 0, "-"),
                ("cut 9; unwrap a; cut 5; drop * - b", "b", 8, "a"), (f"cut {MANY}; unwrap a", "b(b)", MANY - 2, "a")]
        for text, out, many, labels in rows:
            self.assertEqual(how_many_above(Pipeline.of(text), Forest.of(out), 0), many, text)
            self.assertEqual(labels_above(Pipeline.of(text), Forest.of(out), 0).text, labels, text)

    def test_no_names(self):
        for text, out in (("-", "a"), ("drop b", "a(c)"), ("cut 2; unwrap b", "a(c)")):
            self.assertIs(could_stand(Pipeline.of(text), Forest.of(out), 0, ()), True)
            self.assertTrue(self.one(Pipeline.of(text), Forest.of(out), 0, ()))

    def test_without_a_source_nothing_can_have_stood_there(self):
        for text, out in (("drop a", "a b"), ("unwrap b; cut 2", "a(c(d)) e"), ("drop *", "a"), ("rename a=b", "a b")):
            pipeline, forest = Pipeline.of(text), Forest.of(out)
            for place in range(len(forest)):
                for names in ((), ("b",), ("x", "y")):
                    self.assertIs(could_stand(pipeline, forest, place, names), False)
                    self.assertIsNone(source_with(pipeline, forest, place, names))
                self.assertEqual(labels_above(pipeline, forest, place), Labels())
                self.assertEqual(how_many_above(pipeline, forest, place), 0)

    def test_places_just_beyond_either_end_ahead_of_all_else(self):
        for pipeline in (PIPELINE, NOTHING):
            for out in ("-", "a", "a(a) d", "x"):
                forest = Forest.of(out)
                for place in (-1, len(forest), -len(forest) - 1, MANY, -MANY):
                    for told in (lambda: could_stand(pipeline, forest, place, ("a",)),
                                 lambda: source_with(pipeline, forest, place, ()),
                                 lambda: labels_above(pipeline, forest, place),
                                 lambda: how_many_above(pipeline, forest, place)):
                        with self.assertRaises(NoPlace) as caught:
                            told()
                        self.assertEqual(vars(caught.exception), {"place": place})

    def test_sixty_names_and_three_hundred_nodes(self):
        pipeline = Pipeline.of("cut 119; unwrap b; cut 60")
        forest = Forest(path_of(("a",) * 60) * 5)
        self.assertTrue(self.one(pipeline, forest, 120, ("b",) * 59))
        self.assertFalse(self.one(pipeline, forest, 120, ("b",) * 60))
        self.assertTrue(self.one(Pipeline.of("unwrap b c"), forest, 299, ("b", "c") * 30))


def contains(labels, names):
    """Whether the names are among the labels, each as often."""
    return all(labels.count(name) >= names.count(name) for name in names)


class Unknown(unittest.TestCase):
    def by_trying(self, pipeline, forest, unknown):
        """The pair (sure, maybe), by trying all labels that matter at the unknown places."""
        labels = labels_told(pipeline)
        sure, maybe = [], []
        for place in range(len(forest)):
            at = forest.above(place) + (place,)
            hidden = [one for one in at if one in unknown]
            told = []
            for row in itertools.product(labels, repeat=len(hidden)):
                called = dict(zip(hidden, row))
                told.append(stays_by_rooms(pipeline, tuple([called.get(one, forest[one]) for one in at])))
            sure += [place] if all(told) else []
            maybe += [place] if any(told) else []
        return tuple(sure), tuple(maybe)

    def test_by_trying_all_labels(self):
        random = Random(96)
        seen = [0, 0, 0]
        for _ in range(900):
            pipeline = drawn_pipeline(random, list("abc"), 5, 6)
            forest = drawn_forest(random, 8, list("abcd"))
            unknown = tuple(sorted(random.sample(range(len(forest)), random.randint(0, min(3, len(forest))))))
            sure, maybe = self.by_trying(pipeline, forest, unknown)
            self.assertEqual(sure_places(pipeline, forest, unknown), sure, (pipeline.text, forest.text, unknown))
            self.assertEqual(maybe_places(pipeline, forest, unknown), maybe, (pipeline.text, forest.text, unknown))
            kept = pipeline.places(forest)
            seen[0] += sure != kept
            seen[1] += maybe != kept
            seen[2] += any(place in unknown for place in sure)
        self.assertGreater(min(seen), 100)

    def test_what_the_forest_tells_of_unknown_places_plays_no_role(self):
        one, other = Forest.of("a(b(a) x(a)) b(b(c))"), Forest.of("x(b(a) q(a)) b(a(c))")
        for told in (sure_places, maybe_places):
            self.assertEqual(told(PIPELINE, one, (0, 3, 6)), told(PIPELINE, other, (0, 3, 6)))

    def test_nothing_and_all_unknown(self):
        random = Random(97)
        for _ in range(200):
            pipeline, forest = drawn_pipeline(random, list("abc")), drawn_forest(random, 10, list("abcd"))
            self.assertEqual(sure_places(pipeline, forest, ()), pipeline.places(forest))
            self.assertEqual(maybe_places(pipeline, forest, ()), pipeline.places(forest))
        forest = Forest.of("a(b(c)) d")
        places = (0, 1, 2, 3)
        rows = [("-", places, places), ("drop *", (), ()), ("drop a", (), places), ("cut 2", (0, 1, 3), (0, 1, 3)),
                ("cut 2; drop a", (), (0, 1, 3)), ("rename a=b", places, places), ("unwrap a; cut 1", (), places),
                ("unwrap * - q", (), places), ("drop * - q", (), places), ("cut 2; unwrap * - q", (), (0, 1, 3))]
        for text, sure, maybe in rows:
            self.assertEqual(sure_places(Pipeline.of(text), forest, places), sure, text)
            self.assertEqual(maybe_places(Pipeline.of(text), forest, places), maybe, text)
        self.assertEqual(sure_places(NOTHING, Forest(), ()), ())
        self.assertEqual(maybe_places(Pipeline(), Forest(), ()), ())

    def test_the_first_unknown_place_that_is_none(self):
        forest = Forest.of("a(b) c")
        rows = [((3,), 3), ((0, 3), 3), ((-1, 0), -1), ((-2, -1), -2), ((0, 1, 2, 3, 4), 3), ((MANY,), MANY), ([0, 4, 5], 4)]
        for told in (sure_places, maybe_places):
            for unknown, place in rows:
                for pipeline in (PIPELINE, NOTHING):
                    with self.assertRaises(NoPlace) as caught:
                        told(pipeline, forest, unknown)
                    self.assertEqual(vars(caught.exception), {"place": place})
            with self.assertRaises(NoPlace):
                told(PIPELINE, Forest(), (0,))

    def test_three_hundred_nodes(self):
        names, pipeline = many_steps(0)
        forest = Forest(path_of((names + names)[:60]) * 5)
        unknown = tuple(range(0, 300, 3))
        sure, maybe = sure_places(pipeline, forest, unknown), maybe_places(pipeline, forest, unknown)
        self.assertLessEqual(set(sure), set(maybe))
        self.assertEqual(sure, ())
        limit = Pipeline.of("cut 40; unwrap b; cut 30")
        self.assertEqual(sure_places(limit, forest, tuple(range(300))), ())
        self.assertEqual(maybe_places(limit, forest, tuple(range(300))), tuple([at for at in range(300) if at % 60 < 40]))


class Handed(unittest.TestCase):
    def test_lists_for_tuples_and_arguments_by_the_names_shown(self):
        out, names, unknown = Forest.of("a(a) d"), ["b", "b"], [1, 3]
        page = Forest.of("a(b(a) x(a)) b(b(c))")
        self.assertIs(can_come(forest=out, pipeline=PIPELINE), True)
        self.assertEqual(strange_place(forest=Forest.of("a(a(a)) b"), pipeline=PIPELINE), 2)
        self.assertEqual(PIPELINE(source(forest=out, pipeline=PIPELINE)), out)
        self.assertIs(could_stand(names=names, place=0, forest=out, pipeline=PIPELINE), True)
        found = source_with(names=names, place=0, forest=out, pipeline=PIPELINE)
        self.assertEqual(PIPELINE(found), out)
        self.assertEqual(found, source_with(PIPELINE, out, 0, ("b", "b")))
        self.assertEqual(labels_above(place=0, forest=out, pipeline=PIPELINE).text, "b")
        self.assertEqual(how_many_above(place=0, forest=out, pipeline=PIPELINE), 3)
        self.assertEqual(maybe_places(unknown=unknown, forest=page, pipeline=PIPELINE), (0, 1, 2, 3, 4, 7))
        self.assertEqual(sure_places(unknown=[5], forest=page, pipeline=PIPELINE), (0, 2))
        self.assertEqual((names, unknown, out.text), (["b", "b"], [1, 3], "a(a) d"))
        text = found.text
        scrambled(names)
        scrambled(unknown)
        self.assertEqual(found.text, text)


if __name__ == "__main__":
    unittest.main()
