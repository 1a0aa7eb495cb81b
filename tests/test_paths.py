import itertools
import unittest
from random import Random

from deepcuts.errors import NoNumber, Unlike
from deepcuts.forests import chain
from deepcuts.forms import pipeline_of
from deepcuts.paths import (cheapest_out, fewest_out, how_many, is_reason, longest, number_of, path_at, stays,
                            stays_by_runs, taken_by, taken_out, why_goes)
from deepcuts.pipelines import Pipeline
from deepcuts.steps import Step
from tests.pipes import (drawn_forest, drawn_pipeline, high, keeps, many_steps, places_in, stays_by_rooms, stepped,
                         tagged, valid_forms)
from tests.things import listed, path_of, scrambled, things

MANY = 10 ** 40
MIXED = Pipeline.of("cut 5; unwrap b; cut 2; drop x")
NOTHING = Pipeline.of("drop *")


def step_that_takes(pipeline, path):
    """The number of the step in which the last node goes, by the steps one after another."""
    rows = tagged(path_of(path))
    for number, step in enumerate(pipeline.steps):
        rows = stepped(rows, step.kind, step.what)
        if len(path) - 1 not in places_in(rows):
            return number
    return None


def subsets(size):
    """All ascending tuples of places less than size."""
    return [places for many in range(size + 1) for places in itertools.combinations(range(size), many)]


def left_over(path, out):
    return tuple([name for place, name in enumerate(path) if place not in out])


def is_plain_reason(pipeline, path, places):
    """Whether an ascending tuple of places is a reason, by the words of the document."""
    last = len(path) - 1
    if last in places:
        return places == (last,) and pipeline.final(path[-1]) is None
    return len(places) > 0 and all(high(pipeline.room(path[place])) < len(places) for place in places)


def drawn_path(random, most, letters="abcx"):
    return tuple(random.choice(letters) for _ in range(random.randint(1, most)))


class Stays(unittest.TestCase):
    def test_all_small_forms_and_paths(self):
        paths = [path for size in range(1, 5) for path in itertools.product("abz", repeat=size)]
        seen = [0, 0]
        for form in valid_forms("ab", [0, 1, 2, None])[::3]:
            pipeline = pipeline_of(form)
            for path in paths:
                told = keeps(pipeline, path)
                self.assertIs(stays(pipeline, path), told, (pipeline.text, path))
                seen[told] += 1
        self.assertGreater(min(seen), 500)

    def test_drawn_ones_step_by_step(self):
        random = Random(61)
        seen = set()
        for _ in range(3000):
            pipeline, path = drawn_pipeline(random, list("abcx"), 8), drawn_path(random, 8)
            number = step_that_takes(pipeline, path)
            self.assertEqual(taken_by(pipeline, path), number, (pipeline.text, path))
            self.assertIs(stays(pipeline, path), number is None, (pipeline.text, path))
            seen.add(number)
        self.assertGreater(len(seen), 5)

    def test_each_node_of_a_forest_stays_as_its_path_does(self):
        random = Random(62)
        for _ in range(200):
            pipeline, forest = drawn_pipeline(random, list("abc")), drawn_forest(random, 20, list("abcd"))
            told = [place for place in range(len(forest)) if stays(pipeline, forest.path(place))]
            self.assertEqual(tuple(told), pipeline.places(forest))

    def test_the_order_above_plays_no_role(self):
        for above in itertools.permutations(("b", "b", "a", "x")):
            self.assertIs(stays(MIXED, above + ("a",)), False)
        for above in itertools.permutations(("b", "b", "b", "a")):
            self.assertIs(stays(MIXED, above + ("a",)), True)

    def test_edges(self):
        rows = [("-", ("a",), True), ("-", ("a",) * 200, True), ("drop *", ("a",), False), ("cut 1", ("a",), True),
                ("cut 1", ("a", "a"), False), ("drop a", ("a",), False), ("drop b", ("b", "a"), False),
                ("unwrap b", ("b",), False), ("unwrap b", ("b",) * 199 + ("a",), True),
                ("cut 200", ("a",) * 200, True), ("cut 199", ("a",) * 200, False),
                ("rename a=b; drop b", ("a",), False), ("rename a=b; drop a", ("a",), True)]
        for text, path, told in rows:
            pipeline = Pipeline.of(text)
            self.assertIs(stays(pipeline, path), told, (text, path))
            self.assertIs(taken_by(pipeline, path) is None, told)
            self.assertIs(why_goes(pipeline, path) is None, told)

    def test_the_step_is_the_first_one_that_takes_the_node(self):
        rows = [("drop b; drop a", ("a",), 1), ("drop a; drop a", ("a",), 0), ("cut 2; drop *", ("a", "a"), 1),
                ("unwrap b; cut 1; unwrap a", ("b", "a"), 2), ("unwrap b; cut 1; drop c", ("b", "a"), None),
                ("rename a=b; unwrap a; unwrap b", ("a",), 2), ("rename b=c; drop c", ("b", "a"), 1)]
        for text, path, told in rows:
            self.assertEqual(taken_by(Pipeline.of(text), path), told, (text, path))

    def test_two_hundred_nodes(self):
        random = Random(63)
        names, pipeline = many_steps(0)
        both = Pipeline.of("cut 150; unwrap b; cut 20; unwrap c; cut 9")
        for _ in range(60):
            path = drawn_path(random, 200, names)
            self.assertIs(stays(pipeline, path), stays_by_rooms(pipeline, path))
            self.assertEqual(taken_by(pipeline, path), step_that_takes(pipeline, path))
            path = tuple(random.choices("bca", (40, 5, 1), k=random.randint(100, 200))) + ("a",)
            self.assertIs(stays(both, path), keeps(both, path))


class Runs(unittest.TestCase):
    def test_as_the_paths_that_they_tell(self):
        random = Random(64)
        seen = [0, 0]
        for _ in range(3000):
            pipeline = drawn_pipeline(random, list("abcx"), 5, 9)
            many = random.randint(1, 4)
            runs = tuple([(random.choice("abcx"), random.randint(1, 4)) for _ in range(many)])
            path = tuple([name for name, number in runs for _ in range(number)])
            self.assertIs(stays_by_runs(pipeline, runs), stays(pipeline, path), (pipeline.text, runs))
            seen[stays(pipeline, path)] += 1
        self.assertGreater(min(seen), 500)

    def test_great_numbers(self):
        wide = Pipeline.of(f"cut {MANY}; unwrap b; cut {10 ** 30}; unwrap c; cut 5")
        # Rooms: b 10 ** 40 - 1, c 10 ** 30 - 1, others 4.
        rows = [((("b", MANY - 1), ("a", 1)), True), ((("b", MANY), ("a", 1)), False),
                ((("b", MANY - 2), ("a", 2)), True), ((("b", MANY - 1), ("a", 2)), False),
                ((("c", 10 ** 30 - 1), ("a", 1)), True), ((("c", 10 ** 30), ("a", 1)), False),
                ((("c", 10 ** 30 - 1), ("b", MANY - 10 ** 30), ("a", 1)), True),
                ((("c", 10 ** 30 - 1), ("b", MANY - 10 ** 30 + 1), ("a", 1)), False),
                ((("c", 1), ("b", MANY), ("b", MANY), ("a", 1)), False), ((("b", MANY),), False), ((("a", 5),), True),
                ((("a", 6),), False), ((("a", MANY),), False)]
        for runs, told in rows:
            self.assertIs(stays_by_runs(wide, runs), told, runs)
        self.assertIs(stays_by_runs(Pipeline(), (("a", MANY),) * 20), True)
        self.assertIs(stays_by_runs(Pipeline.of("unwrap b; cut 19"), (("b", MANY), ("a", 1)) * 19 + (("a", 1),)), False)
        self.assertIs(stays_by_runs(Pipeline.of("unwrap b; cut 20"), (("b", MANY), ("a", 1)) * 19 + (("a", 1),)), True)

    def test_one_run(self):
        for many in range(1, 6):
            self.assertIs(stays_by_runs(Pipeline.of("cut 3"), (("a", many),)), many <= 3)
        self.assertIs(stays_by_runs(Pipeline.of("drop a"), (("a", 1),)), False)
        self.assertIs(stays_by_runs(Pipeline.of("drop a"), (("b", 1),)), True)
        self.assertIs(stays_by_runs(NOTHING, (("b", 1),)), False)


class Reasons(unittest.TestCase):
    def test_there_is_one_exactly_if_the_node_goes(self):
        random = Random(65)
        seen = [0, 0]
        for _ in range(1500):
            pipeline, path = drawn_pipeline(random, list("abcx")), drawn_path(random, 6)
            reasons = [places for places in subsets(len(path)) if is_plain_reason(pipeline, path, places)]
            self.assertIs(bool(reasons), not stays(pipeline, path), (pipeline.text, path))
            found = why_goes(pipeline, path)
            seen[found is None] += 1
            if found is None:
                self.assertEqual(reasons, [])
            else:
                self.assertIn(found, reasons, (pipeline.text, path))
                self.assertIsInstance(found, tuple)
        self.assertGreater(min(seen), 200)

    def test_places_of_unlike_rooms(self):
        pipeline = Pipeline.of("cut 3; unwrap b; cut 2")
        self.assertEqual(why_goes(pipeline, ("b", "a", "b", "a")), (0, 1, 2))
        self.assertEqual(why_goes(pipeline, ("b", "b", "a", "a")), (0, 1, 2))
        self.assertIsNone(why_goes(pipeline, ("b", "a", "a")))

    def test_all_sets_of_places(self):
        random = Random(66)
        for _ in range(300):
            pipeline, path = drawn_pipeline(random, list("abcx")), drawn_path(random, 6)
            for places in subsets(len(path)):
                told = is_plain_reason(pipeline, path, places)
                self.assertIs(is_reason(pipeline, path, places), told, (pipeline.text, path, places))
                self.assertIs(is_reason(pipeline, path, list(places)), False)
                if len(places) > 1:
                    self.assertIs(is_reason(pipeline, path, places[::-1]), False)

    def test_things_that_are_none(self):
        paths = [("x", "x", "x"), ("a", "a", "a"), ("x", "a"), ("x",), ("b",)]
        for pipeline in (MIXED, NOTHING, Pipeline()):
            for path in paths:
                good = {places for places in subsets(len(path)) if is_plain_reason(pipeline, path, places)}
                for thing in things():
                    wanted = isinstance(thing, tuple) and all(isinstance(part, int) for part in thing)
                    wanted = wanted and not any(isinstance(part, bool) for part in thing) and thing in good
                    self.assertIs(is_reason(pipeline, path, thing), wanted, (path, thing))
        for thing in [(0, 0), (0, 0, 1), (True,), (False,), (0, True), (-1,), (-3, -2), (0, 1, 2), (0, 2), (3,), (0, 3),
                      (MANY,), (None,), ("0",), ((0, 1),), ((0,), 1), [0, 1], ([0], 1), 0, 1, None, True, "", "01"]:
            self.assertIs(is_reason(MIXED, ("a", "a", "a"), thing), False, thing)
        self.assertIs(is_reason(MIXED, ("x", "x"), (0,)), True)
        self.assertIs(is_reason(MIXED, ("x", "x"), (1,)), True)
        self.assertIs(is_reason(MIXED, ("x", "x"), (0, 1)), False)
        deep = (0,)
        for _ in range(11):
            deep = (deep,)
        self.assertIs(is_reason(MIXED, ("x", "x"), deep), False)

    def test_two_hundred_nodes(self):
        pipeline = Pipeline.of("cut 150; unwrap b; cut 20")
        path = ("b",) * 150 + ("a",) * 50
        self.assertIs(is_reason(pipeline, path, why_goes(pipeline, path)), True)
        self.assertIs(is_reason(pipeline, path, tuple(range(150))), True)
        self.assertIs(is_reason(pipeline, path, tuple(range(149))), False)
        self.assertIs(is_reason(pipeline, path, tuple(range(150, 199))), True)
        self.assertIs(is_reason(pipeline, path, tuple(range(150, 200))), False)
        self.assertIs(is_reason(pipeline, path, tuple(range(150, 169))), False)


class Out(unittest.TestCase):
    def least(self, pipeline, path, prices):
        """The least price of a set of places above, by trying all of them."""
        found = [sum(prices[place] for place in out) for out in subsets(len(path) - 1)
                 if keeps(pipeline, left_over(path, out))]
        return min(found, default=None)

    def good(self, pipeline, path, out, price, prices):
        self.assertIsInstance(out, tuple)
        self.assertEqual(list(out), sorted(set(out)))
        self.assertTrue(all(0 <= place < len(path) - 1 for place in out))
        self.assertTrue(stays(pipeline, left_over(path, out)), (pipeline.text, path, out))
        self.assertEqual(sum(prices[place] for place in out), price, (pipeline.text, path, prices, out))

    def test_the_least_by_trying_all_sets(self):
        random = Random(67)
        seen = set()
        for _ in range(800):
            pipeline, path = drawn_pipeline(random, list("abcx"), 7), drawn_path(random, 8)
            ones = [1] * (len(path) - 1)
            prices = [random.choice([0, 0, 1, 2, 3, 5, 9]) for _ in ones]
            few, cheap = self.least(pipeline, path, ones), self.least(pipeline, path, prices)
            self.assertEqual(fewest_out(pipeline, path), few, (pipeline.text, path))
            self.assertEqual(cheapest_out(pipeline, path, prices), cheap, (pipeline.text, path, prices))
            seen.add(few)
            if few is None:
                self.assertIsNone(taken_out(pipeline, path))
                self.assertIsNone(taken_out(pipeline, path, prices))
            else:
                self.good(pipeline, path, taken_out(pipeline, path), few, ones)
                self.good(pipeline, path, taken_out(pipeline, path, tuple(prices)), cheap, prices)
        self.assertGreaterEqual(len(seen), 6)

    def test_the_dear_ones_stay(self):
        rows = [(("a", "a", "a", "a"), (1, 1, MANY), 2), (("a", "a", "a", "a"), (MANY, 1, 1), 2),
                (("b", "b", "b", "b", "a", "a"), (9, 9, 9, 9, 1), 1), (("b", "b", "b", "b", "a", "a"), (9, 9, 2, 9, 7), 2),
                (("x", "a"), (MANY,), MANY), (("x", "a"), (0,), 0), (("a", "a", "a"), (0, 5), 0), (("a",), (), 0),
                (("a", "x", "x", "a"), (0, 0, 0), 0)]
        for path, prices, told in rows:
            self.assertEqual(cheapest_out(MIXED, path, prices), told, (path, prices))
            self.good(MIXED, path, taken_out(MIXED, path, prices), told, prices)

    def test_edges(self):
        for pipeline in (Pipeline(), MIXED, Pipeline.of("cut 1")):
            self.assertEqual(fewest_out(pipeline, ("a",)), 0)
            self.assertEqual(taken_out(pipeline, ("a",)), ())
            self.assertEqual(taken_out(pipeline, ("a",), ()), ())
        for path in (("a",), ("x", "a"), ("b", "x", "b")):
            self.assertIsNone(fewest_out(NOTHING, path))
            self.assertIsNone(cheapest_out(NOTHING, path, [0] * (len(path) - 1)))
            self.assertIsNone(taken_out(NOTHING, path))
        self.assertEqual(taken_out(Pipeline.of("cut 1"), ("a", "b", "c", "d")), (0, 1, 2))
        self.assertEqual(fewest_out(Pipeline.of("unwrap b"), ("b",) * 199 + ("a",)), 0)

    def test_prices_that_are_not_as_many_ahead_of_all_else(self):
        for pipeline in (Pipeline(), MIXED, NOTHING):
            for path in (("a",), ("x", "a"), ("b", "a", "x")):
                for many in range(6):
                    if many != len(path) - 1:
                        for kind in (tuple, list):
                            with self.assertRaises(Unlike) as caught:
                                cheapest_out(pipeline, path, kind([1] * many))
                            self.assertEqual(vars(caught.exception), {})
                            with self.assertRaises(Unlike):
                                taken_out(pipeline, path, kind([1] * many))

    def test_two_hundred_nodes(self):
        random = Random(68)
        pipeline = Pipeline.of("cut 60; unwrap b; cut 20; unwrap c; cut 9; drop x")
        path = tuple(random.choices("abcx", k=199)) + ("a",)
        prices = [random.randint(0, MANY) for _ in path[1:]]
        out = taken_out(pipeline, path, prices)
        self.good(pipeline, path, out, cheapest_out(pipeline, path, prices), prices)
        # No node that is out could take the place of a cheaper one that is kept, or join those.
        kept = [place for place in range(199) if place not in out]
        for place in out:
            self.assertFalse(stays(pipeline, left_over(path, [one for one in out if one != place])))
            for other in kept:
                if prices[other] < prices[place]:
                    swapped = [one for one in out if one != place] + [other]
                    self.assertFalse(stays(pipeline, left_over(path, swapped)))


class Counts(unittest.TestCase):
    def all_of(self, pipeline, names, size):
        return [path for path in itertools.product(names, repeat=size) if size and stays_by_rooms(pipeline, path)]

    def one(self, pipeline, names, size):
        wanted = self.all_of(pipeline, names, size)
        self.assertEqual(how_many(pipeline, names, size), len(wanted), (pipeline.text, names, size))
        for number, path in enumerate(wanted):
            self.assertEqual(path_at(pipeline, names, size, number), path)
            self.assertEqual(number_of(pipeline, names, path), number)
        for number in (-1, len(wanted), len(wanted) + 1, -len(wanted), MANY, -MANY):
            if not 0 <= number < len(wanted):
                with self.assertRaises(NoNumber) as caught:
                    path_at(pipeline, names, size, number)
                self.assertEqual(vars(caught.exception), {"number": number})
        return wanted

    def test_back_and_forth_by_trying_all_paths(self):
        random = Random(69)
        seen = 0
        for _ in range(250):
            pipeline = drawn_pipeline(random, list("abcd"), 6, 6)
            names = tuple(sorted(random.sample("abcdz", random.randint(0, 4))))
            for size in range(5 if len(names) > 2 else 7):
                wanted = self.one(pipeline, names, size)
                seen += len(wanted) > 1
                for path in random.sample(list(itertools.product(names, repeat=size)), min(5, len(names) ** size)):
                    if size:
                        self.assertEqual(number_of(pipeline, names, path), len([one for one in wanted if one < path]))
        self.assertGreater(seen, 200)

    def test_paths_of_other_names_have_numbers_too(self):
        random = Random(70)
        for _ in range(200):
            pipeline = drawn_pipeline(random, list("abc"), 5, 5)
            for size in (1, 2, 3):
                wanted = self.all_of(pipeline, ("b", "c"), size)
                path = tuple(random.choice("abcd") for _ in range(size))
                self.assertEqual(number_of(pipeline, ("b", "c"), path), len([one for one in wanted if one < path]))

    def test_no_names_and_size_none(self):
        for pipeline in (Pipeline(), MIXED, NOTHING):
            for size in range(4):
                self.assertEqual(how_many(pipeline, (), size), 0)
                self.assertEqual(self.one(pipeline, (), size), [])
            self.assertEqual(self.one(pipeline, ("a", "b"), 0), [])
            self.assertEqual(longest(pipeline, ()), 0)
            self.assertEqual(number_of(pipeline, (), ("a", "b")), 0)
        self.assertEqual(how_many(NOTHING, ("a", "b"), 1), 0)

    def test_longest(self):
        random = Random(71)
        seen = set()
        for _ in range(600):
            pipeline = drawn_pipeline(random, list("abcd"), 6, 5)
            names = tuple(sorted(random.sample("abcdz", random.randint(0, 3))))
            sizes = [size for size in range(9) if how_many(pipeline, names, size) > 0]
            told = longest(pipeline, names)
            self.assertEqual(told, None if 8 in sizes else max(sizes, default=0), (pipeline.text, names))
            self.assertEqual(sizes, list(range(1, max(sizes, default=0) + 1)))
            seen.add(told)
        self.assertEqual(seen, {None, 0, 1, 2, 3, 4, 5})
        rows = [("-", None), ("unwrap b", None), ("unwrap a", None), ("unwrap a b", 0), (f"cut {MANY}; unwrap b", MANY),
                (f"unwrap b; cut {MANY}", None), (f"cut {MANY}; unwrap b; cut 3", MANY), ("drop a; cut 1", 1)]
        for text, told in rows:
            self.assertEqual(longest(Pipeline.of(text), ("a", "b")), told, text)

    def test_eight_names_and_sixty_nodes(self):
        steps = [part for at, name in enumerate("bcdefgh") for part in (f"cut {58 - 5 * at}", f"unwrap {name}")]
        pipeline = Pipeline.of("; ".join(steps + ["cut 20"]))
        names = tuple("abcdefgh")
        self.assertEqual(longest(pipeline, names), 58)
        self.assertEqual([how_many(pipeline, names, size) > 0 for size in (57, 58, 59, 60)], [True, True, False, False])
        self.assertEqual(how_many(Pipeline.of("unwrap b"), names, 60), 7 * 8 ** 59)
        for size in (19, 30, 58):
            many = how_many(pipeline, names, size)
            for number in (0, 1, many // 3, many // 2, many - 1):
                path = path_at(pipeline, names, size, number)
                self.assertEqual(len(path), size)
                self.assertTrue(stays(pipeline, path))
                self.assertEqual(number_of(pipeline, names, path), number)
            with self.assertRaises(NoNumber):
                path_at(pipeline, names, size, many)
        endless = Pipeline()
        self.assertEqual(path_at(endless, names, 60, 8 ** 60 - 1), ("h",) * 60)
        self.assertEqual(number_of(endless, names, ("h",) * 60), 8 ** 60 - 1)


class Handed(unittest.TestCase):
    def test_lists_for_tuples_and_arguments_by_the_names_shown(self):
        path, runs, names, prices = ["a", "b", "a", "a"], [["b", 4], ["a", 1]], ["a", "b"], [3, 5, 4]
        before = [listed(value) for value in (path, runs, names, prices)]
        rows = [(stays(path=path, pipeline=MIXED), stays(MIXED, tuple(path))),
                (stays_by_runs(runs=runs, pipeline=MIXED), True), (taken_by(path=path, pipeline=MIXED), 2),
                (is_reason(path=path, thing=(0, 2), pipeline=MIXED), True),
                (is_reason(MIXED, path, why_goes(path=path, pipeline=MIXED)), True),
                (fewest_out(path=path, pipeline=MIXED), 1),
                (cheapest_out(prices=prices, path=path, pipeline=MIXED), 3),
                (taken_out(prices=prices, path=path, pipeline=MIXED), (0,)),
                (taken_out(path=["a", "x", "a"], pipeline=MIXED), (1,)),
                (how_many(size=5, names=names, pipeline=MIXED), 5),
                (path_at(number=1, size=2, names=names, pipeline=MIXED), ("b", "a")),
                (number_of(path=["b", "b"], names=names, pipeline=MIXED), 2), (longest(names=names, pipeline=MIXED), 5)]
        for found, wanted in rows:
            self.assertEqual(found, wanted)
        self.assertEqual([path, runs, names, prices], before)
        found = taken_out(MIXED, path, prices)
        for value in (path, runs, names, prices):
            scrambled(value)
        self.assertEqual(found, (0,))

    def test_the_same_calls_tell_the_same(self):
        random = Random(72)
        for _ in range(50):
            pipeline, path = drawn_pipeline(random, list("abcx")), drawn_path(random, 8)
            for told in (why_goes, taken_out, fewest_out):
                self.assertEqual(told(pipeline, path), told(pipeline, list(path)))
        self.assertEqual(MIXED.text, "cut 5; unwrap b; cut 2; drop x")

    def test_steps_that_tell_forty_names(self):
        names, pipeline = many_steps(2)
        self.assertEqual(how_many(pipeline, tuple(sorted(names[:8])), 1), len([name for name in names[:8]
                                                                             if pipeline.final(name) is not None]))
        self.assertEqual(len(Pipeline([Step("cut", 3)])(chain(("a",) * 9))), 3)


if __name__ == "__main__":
    unittest.main()
