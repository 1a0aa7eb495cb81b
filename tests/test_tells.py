import itertools
import unittest
from random import Random

from deepcuts.errors import Unfit
from deepcuts.forests import Forest
from deepcuts.forms import pipeline_of
from deepcuts.paths import stays
from deepcuts.pipelines import Pipeline
from deepcuts.tells import path_breaks, path_tells, read_off, seen_by, tellers, telling_forest
from tests.pipes import drawn_forest, drawn_pipeline, many_steps, places_in, run, stays_by_rooms, valid_forms
from tests.things import all_trees, listed, scrambled

NOTHING = Pipeline.of("drop *")


def drawn_path(random, most, letters):
    return tuple(random.choice(letters) for _ in range(random.randint(1, most)))


class Tells(unittest.TestCase):
    def both(self, path, other):
        """Checks that path_breaks parts the two exactly if path_tells says that it can; whether path tells the other."""
        told = path_tells(path, other)
        broken = path_breaks(path, other)
        self.assertIs(broken is None, told, (path, other))
        if broken is not None:
            self.assertIsInstance(broken, Pipeline)
            self.assertTrue(stays_by_rooms(broken, path), (path, other, broken.text))
            self.assertFalse(stays_by_rooms(broken, other), (path, other, broken.text))
        return told

    def test_what_all_small_pipelines_say(self):
        # Rooms of three labels to 4, and other labels dropped: all that paths of so few nodes can be parted by.
        pipelines = [pipeline_of(form) for form in valid_forms("abc", [0, 1, 2, 3, None], rests=[(False, 0)])]
        paths = [path for size in range(1, 4) for path in itertools.product("abc", repeat=size)]
        lots = {path: {at for at, pipeline in enumerate(pipelines) if stays_by_rooms(pipeline, path)} for path in paths}
        seen = [0, 0]
        for path, other in itertools.product(paths, repeat=2):
            told = lots[path] <= lots[other]
            self.assertIs(path_tells(path, other), told, (path, other))
            self.both(path, other)
            seen[told] += 1
        self.assertGreater(min(seen), 100)

    def test_drawn_ones(self):
        random = Random(111)
        pipelines = [drawn_pipeline(random, list("abc"), 7, 7) for _ in range(400)]
        seen = [0, 0]
        for _ in range(3000):
            path = drawn_path(random, 8, "aaabbc")
            other = drawn_path(random, 7, "ab")[:-1] + path[-1:]
            told = self.both(path, other)
            seen[told] += 1
            if told:
                for pipeline in random.sample(pipelines, 30):
                    self.assertTrue(not stays_by_rooms(pipeline, path) or stays_by_rooms(pipeline, other))
        self.assertGreater(min(seen), 300)

    def test_edges(self):
        rows = [("a", "a", True), ("a", "b", False), ("aa", "a", True), ("a", "aa", False), ("ba", "a", True),
                ("a", "ba", False), ("ba", "ba", True), ("bca", "cba", True), ("aaa", "baa", False), ("baa", "bba", True),
                ("baa", "bbba", False), ("baaa", "bbba", True), ("bcaaa", "bbcca", True), ("bcaa", "bbcca", False),
                ("bbaa", "bbba", True), ("bbba", "baa", False), ("baaaa", "bbaaa", True), ("ab", "ab", True),
                ("aab", "ab", True), ("ab", "aab", False), ("abb", "aab", True)]
        for path, other, told in rows:
            self.assertIs(self.both(tuple(path), tuple(other)), told, (path, other))

    def test_sixty_nodes(self):
        random = Random(112)
        names, _ = many_steps(0)
        for _ in range(100):
            path = tuple(random.choices(names[:6], k=59)) + ("a",)
            other = tuple(random.sample(path[:-1], 30)) + ("a",)
            self.assertTrue(self.both(path, other))
            self.both(other, path)
        many = tuple(first + second for first in "abcdefgh" for second in "abcdefgh")[:60]
        self.assertTrue(self.both(many, many[::-1][1:] + many[-1:]) in (True, False))
        self.assertFalse(self.both(many, ("zz",) + many))
        self.assertFalse(self.both(("a",) * 59, ("a",) * 60))


class Tellers(unittest.TestCase):
    def test_those_that_no_other_one_tells(self):
        random = Random(113)
        seen = set()
        for _ in range(400):
            paths = [drawn_path(random, 5, "aab") for _ in range(random.randint(0, 6))]
            wanted = []
            for at, path in enumerate(paths):
                told = [one for one, other in enumerate(paths) if one != at and path_tells(other, path)]
                # One that tells this one, and is told by it, counts only if it stands ahead.
                told = [one for one in told if not path_tells(path, paths[one]) or one < at]
                wanted += [] if told else [at]
            self.assertEqual(tellers(tuple(paths)), tuple(wanted), paths)
            self.assertIsInstance(tellers(paths), tuple)
            seen.add((len(wanted), len(paths)))
            for at, path in enumerate(paths):
                self.assertTrue(at in wanted or any(path_tells(paths[one], path) for one in wanted))
        self.assertGreater(len(seen), 10)

    def test_edges(self):
        rows = [((), ()), (("a",), (0,)), (("a", "a"), (0,)), (("bca", "cba", "bca"), (0,)), (("a", "b"), (0, 1)),
                (("a", "ba", "aa"), (1, 2)), (("a", "cba", "bca", "a"), (1,)), (("ab", "ba"), (0, 1))]
        for paths, told in rows:
            self.assertEqual(tellers(tuple([tuple(path) for path in paths])), told, paths)

    def test_forty_paths_of_sixty_nodes(self):
        paths = tuple([("b",) * many + ("a",) * (60 - many) for many in range(40)])
        self.assertEqual(tellers(paths), tuple(at for at in range(40)
                                               if not any(path_tells(paths[one], paths[at]) for one in range(40) if one != at)))
        self.assertEqual(tellers((("a",) * 60,) * 40), (0,))


class Telling(unittest.TestCase):
    def wanted(self, names, most):
        """All FORMs over names with rooms up to most, or None, and others dropped."""
        return valid_forms(names, list(range(most + 1)) + [None], rests=[(False, 0)])

    def test_the_forest(self):
        for many in range(1, 5):
            for most in range(11):
                names = tuple("abcd"[:many])
                forest = telling_forest(names, most)
                self.assertIsInstance(forest, Forest)
                self.assertLessEqual(len(forest), 300)
                self.assertEqual(forest.names, names)
                self.assertEqual(forest, telling_forest(list(names), most))

    def test_all_small_pipelines_are_told_apart(self):
        for names, most in (("a", 0), ("a", 3), ("ab", 2), ("abc", 1), ("ab", 0)):
            forest = telling_forest(tuple(names), most)
            found = {}
            for form in self.wanted(names, most):
                pipeline = pipeline_of(form)
                seen = seen_by(pipeline, forest)
                self.assertNotIn(seen, found, (pipeline.text, found.get(seen)))
                found[seen] = pipeline.text
                # Over these names and dropping all others there is just one.
                again = read_off(tuple(names), most, seen)
                self.assertEqual([(again.room(name), again.final(name)) for name in names],
                                 [(pipeline.room(name), pipeline.final(name)) for name in names])

    def test_drawn_ones(self):
        random = Random(114)
        seen = set()
        for _ in range(300):
            names = tuple(sorted(random.sample("abcde", random.randint(1, 4))))
            pipeline = drawn_pipeline(random, list("abcdef"), 6, 11)
            forest = telling_forest(names, 10)
            told = seen_by(pipeline, forest)
            found = read_off(names, 10, told)
            self.assertEqual(seen_by(found, forest), told)
            if told:
                for name in names:
                    self.assertEqual((found.room(name), found.final(name)), (pipeline.room(name), pipeline.final(name)))
            for _ in range(3):
                other = drawn_forest(random, 25, list(names))
                self.assertEqual(found(other), pipeline(other), (pipeline.text, found.text))
            seen.add(tuple([found.room(name) for name in names]))
        self.assertGreater(len(seen), 50)

    def test_rooms_that_are_most_and_one_more(self):
        names = ("a", "b")
        for most in range(11):
            forest = telling_forest(names, most)
            exact = Pipeline.of(f"cut {most + 1}; drop b") if most == 0 else Pipeline.of(f"cut {most + 1}; unwrap b")
            found = read_off(names, most, seen_by(exact, forest))
            self.assertEqual((found.room("a"), found.room("b")), (most, most))
            endless = read_off(names, most, seen_by(Pipeline.of("rename a=c"), forest))
            self.assertEqual((endless.room("a"), endless.room("b"), endless.final("a")), (None, None, "c"))
            # A room that is one more is seen as one without end: this is another Pipeline by which the same is seen.
            more = read_off(names, most, seen_by(Pipeline.of(f"cut {most + 2}"), forest))
            self.assertIsNone(more.room("a"))

    def test_nothing_seen(self):
        for names in (("a",), ("a", "b", "c", "d")):
            for most in (0, 10):
                found = read_off(names, most, ())
                self.assertEqual(seen_by(found, telling_forest(names, most)), ())
                for name in names:
                    self.assertTrue(found.room(name) is None or found.room(name) <= most)
                    self.assertIsNone(found.final(name))

    def refused(self, names, most, seen):
        with self.assertRaises(Unfit) as caught:
            read_off(names, most, seen)
        self.assertEqual(vars(caught.exception), {})

    def test_what_is_seen_spoilt(self):
        """Each pair left out, put in or called otherwise: either a Pipeline shows just this, or there is none."""
        for names, most in (("ab", 1), ("a", 2), ("abc", 0)):
            forest = telling_forest(tuple(names), most)
            shown = {}
            for form in valid_forms(names, list(range(most + 1)) + [None], list(names) + ["q"], [(False, 0)]):
                pipeline = pipeline_of(form)
                shown.setdefault(seen_by(pipeline, forest), pipeline)
            spoilt = set()
            for seen in shown:
                table = dict(seen)
                for place in range(-1, len(forest) + 2):
                    for name in [None] + list(names) + ["q"]:
                        other = {**table, place: name}
                        rows = [(at, other[at]) for at in sorted(other) if other[at] is not None]
                        spoilt.add(tuple(rows))
            refused = 0
            for seen in sorted(spoilt):
                if seen in shown:
                    self.assertEqual(seen_by(read_off(tuple(names), most, seen), forest), seen)
                else:
                    self.refused(tuple(names), most, seen)
                    refused += 1
            self.assertGreater(refused, 50)

    def test_what_is_not_there(self):
        names = ("a", "b")
        forest = telling_forest(names, 2)
        seen = seen_by(Pipeline(), forest)
        for wrong in [((len(forest), "a"),), ((-1, "a"),) + seen, seen + ((len(forest), "b"),), seen + ((10 ** 40, "b"),),
                      seen[1:], seen[:-1], seen[::-1], seen + seen[-1:], tuple([(at, "A") for at, _ in seen]),
                      tuple([(at, "toolongone") for at, _ in seen]), tuple([(at, "a") for at, _ in seen])[:-1],
                      ((1, "a"),), ((len(forest) - 1, "a"),)]:
            self.refused(names, 2, wrong)
            self.refused(list(names), 2, listed(wrong))

    def test_seen_by(self):
        random = Random(115)
        for _ in range(300):
            pipeline, forest = drawn_pipeline(random, list("abc")), drawn_forest(random, 12, list("abcd"))
            rows = run(pipeline, forest.trees)
            wanted = [(place, pipeline.final(forest[place])) for place in places_in(rows)]
            self.assertEqual(seen_by(pipeline, forest), tuple(wanted))
            self.assertEqual(tuple([name for _, name in seen_by(pipeline, forest)]), flat_names(pipeline(forest).trees))
        self.assertEqual(seen_by(NOTHING, Forest.of("a(b)")), ())
        self.assertEqual(seen_by(Pipeline(), Forest()), ())
        for trees in all_trees(2, "ab"):
            self.assertEqual(len(seen_by(Pipeline(), Forest(trees))), len(Forest(trees)))


def flat_names(trees):
    return tuple([part for name, beneath in trees for part in (name,) + flat_names(beneath)])


class Handed(unittest.TestCase):
    def test_lists_for_tuples_and_arguments_by_the_names_shown(self):
        path, other = ["b", "a"], ["b", "b", "a"]
        paths = [["a"], ["b", "a"], ["a", "b", "a"], ["b", "b", "a"]]
        names = ["a", "b"]
        seen = listed(seen_by(forest=telling_forest(most=4, names=names), pipeline=Pipeline.of("cut 3; rename a=c")))
        before = [listed(value) for value in (path, other, paths, names, seen)]
        self.assertIs(path_tells(other=other, path=path), False)
        broken = path_breaks(other=other, path=path)
        self.assertEqual((stays(broken, path), stays(broken, other)), (True, False))
        text = broken.text
        self.assertEqual(text, path_breaks(("b", "a"), ("b", "b", "a")).text)
        self.assertEqual(tellers(paths=paths), (2,))
        found = read_off(seen=seen, most=4, names=names)
        self.assertEqual((found.room("a"), found.final("a"), found.final("b")), (2, "c", "b"))
        self.assertEqual([path, other, paths, names, seen], before)
        form = found.form
        for value in (path, other, paths, names, seen):
            scrambled(value)
        self.assertEqual((broken.text, found.form), (text, form))


if __name__ == "__main__":
    unittest.main()
