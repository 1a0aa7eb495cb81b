import itertools
import unittest
from random import Random

from deepcuts.costs import cheapest, effects, fewest, kinds_needed, needless, price_of
from deepcuts.forms import pipeline_of
from deepcuts.pipelines import Pipeline
from deepcuts.steps import Step
from tests.pipes import drawn_pipeline, high, is_within, labels_told, many_steps

KINDS = ("drop", "unwrap", "cut", "rename")
WORDS = {"drop": 3, "unwrap": 5, "cut": 7, "rename": 11}
# All steps over the labels a and b that matter for rooms up to 2, with and without the rest.
POOL = ["drop a", "drop b", "drop a b", "drop *", "drop * - a", "drop * - b", "drop * - a b", "unwrap a", "unwrap b",
        "unwrap a b", "unwrap *", "unwrap * - a", "unwrap * - b", "unwrap * - a b", "cut 1", "cut 2", "cut 3",
        "rename a=b", "rename b=a", "rename a=b b=a", "rename a=c"]
NOTHING = Pipeline.of("drop *")


def kinds_of(pipeline):
    kinds = [step.kind for step in pipeline.steps]
    return tuple([kinds.count(kind) for kind in KINDS])


def without(pipeline, number):
    return Pipeline([step for at, step in enumerate(pipeline.steps) if at != number])


def word_for(p, q):
    """What compare tells, by the order label by label."""
    low, up = is_within(p, q), is_within(q, p)
    if low and up:
        same = all(p.final(label) == q.final(label) for label in labels_told(p, q))
        return "alike" if same else "places"
    return "within" if low else "around" if up else "neither"


def needed_of(pipeline):
    """How many steps of each kind are needed, by the words of the document."""
    labels = labels_told(pipeline)
    left = [label for label in labels if pipeline.final(label) is not None]
    if not left:
        return 1, 0, 0, 0
    gone = {pipeline.room(label) for label in labels if label not in left}
    cuts = {room for room in gone | {pipeline.room(left[0])} if room is not None}
    cuts -= {0} if pipeline.room(left[0]) != 0 else set()
    renamed = any(pipeline.final(label) != label for label in left)
    return int(0 in gone), len(gone - {0}), len(cuts), int(renamed)


class Needless(unittest.TestCase):
    def test_by_trying_steps_left_out(self):
        random = Random(81)
        seen = {}
        for _ in range(1000):
            pipeline = drawn_pipeline(random, list("abc"), 7)
            told = tuple([word_for(without(pipeline, at), pipeline) for at in range(len(pipeline))])
            self.assertEqual(effects(pipeline), told, pipeline.text)
            wanted = tuple([at for at, word in enumerate(told) if word == "alike"])
            self.assertEqual(needless(pipeline), wanted, pipeline.text)
            self.assertIsInstance(needless(pipeline), tuple)
            self.assertIsInstance(effects(pipeline), tuple)
            for word in told:
                seen[word] = seen.get(word, 0) + 1
        self.assertEqual(sorted(seen), ["alike", "around", "neither", "places", "within"])

    def test_edges(self):
        rows = {"-": ((), ()), "drop -": ((0,), ("alike",)), "drop *": ((), ("around",)),
                "drop *; drop *": ((0, 1), ("alike", "alike")), "cut 3; cut 2": ((0,), ("alike", "around")),
                "rename a=b": ((), ("places",)), "rename a=b; drop b": ((), ("around", "around")),
                "rename a=b b=a; rename a=b b=a": ((), ("places", "places")), "unwrap a; drop a": ((1,), ("within", "alike")),
                f"cut {10 ** 40}; cut {10 ** 40 + 1}": ((1,), ("around", "alike"))}
        for text, (few, told) in rows.items():
            self.assertEqual(needless(Pipeline.of(text)), few, text)
            self.assertEqual(effects(Pipeline.of(text)), told, text)

    def test_forty_steps(self):
        _, pipeline = many_steps(3)
        self.assertEqual(len(effects(pipeline)), 40)
        self.assertEqual([at for at, word in enumerate(effects(pipeline)) if word == "alike"], list(needless(pipeline)))
        self.assertEqual(needless(Pipeline((Step("cut", 3),) * 40)), tuple(range(40)))


class Kinds(unittest.TestCase):
    def test_as_the_rooms_tell(self):
        random = Random(82)
        seen = set()
        for _ in range(1500):
            pipeline = drawn_pipeline(random, list("abcd"), 8)
            found = kinds_needed(pipeline)
            self.assertEqual(found, needed_of(pipeline), pipeline.text)
            self.assertIsInstance(found, tuple)
            self.assertEqual(kinds_of(pipeline.plain), found)
            seen.add(found)
        self.assertGreater(len(seen), 25)

    def test_edges(self):
        rows = {"-": (0, 0, 0, 0), "drop *": (1, 0, 0, 0), "unwrap *": (1, 0, 0, 0), "drop a": (1, 0, 0, 0),
                "unwrap a": (0, 1, 0, 0), "cut 1": (0, 0, 1, 0), "cut 1; unwrap a": (1, 0, 1, 0),
                "cut 2; unwrap a": (0, 1, 1, 0), "cut 3; unwrap a; cut 2": (0, 1, 2, 0), "rename a=b b=a": (0, 0, 0, 1),
                "rename a=b; rename b=a": (0, 0, 0, 1), "rename a=b; drop b": (1, 0, 0, 0), "cut 9; drop *": (1, 0, 0, 0),
                "rename a=b b=a; rename a=b b=a": (0, 0, 0, 0), "unwrap a; cut 3; unwrap b; cut 1; drop c": (1, 2, 2, 0)}
        for text, told in rows.items():
            self.assertEqual(kinds_needed(Pipeline.of(text)), told, text)


def at_least(kinds, needed):
    return all(many >= few for many, few in zip(kinds, needed))


class Cheapest(unittest.TestCase):
    @classmethod
    def setUpClass(cls):
        steps = [Step.of(text) for text in POOL]
        # The kinds of all rows of up to three steps, by what these do.
        cls.rows = {}
        for many in range(4):
            for row in itertools.product(steps, repeat=many):
                pipeline = Pipeline(row)
                cls.rows.setdefault(pipeline.form, set()).add(kinds_of(pipeline))

    def test_no_small_row_of_steps_has_fewer_of_a_kind(self):
        exchanged = 0
        for form, rows in self.rows.items():
            pipeline = pipeline_of(form)
            needed = kinds_needed(pipeline)
            bare = form == NOTHING.form or pipeline.depth == 1
            for kinds in rows:
                drops, unwraps, cuts, renames = kinds
                other = drops + 1, unwraps - 1, cuts, renames
                if not at_least(kinds, needed):
                    self.assertTrue(bare and drops < needed[0] and at_least(other, needed), (pipeline.text, kinds))
                    exchanged += 1
            self.assertGreaterEqual(min(map(sum, rows)), len(fewest(pipeline)), pipeline.text)
        self.assertGreater(exchanged, 20)
        self.assertGreater(len(self.rows), 200)

    def test_none_of_these_rows_is_cheaper(self):
        random = Random(83)
        less = 0
        for form, rows in self.rows.items():
            pipeline = pipeline_of(form)
            for _ in range(6):
                prices = {kind: random.choice([0, 1, 2, 5, 10 ** 12]) for kind in KINDS}
                found = cheapest(pipeline, prices)
                self.assertEqual(found, pipeline)
                price = price_of(found, prices)
                told = [sum(many * prices[kind] for many, kind in zip(kinds, KINDS)) for kinds in rows]
                self.assertLessEqual(price, min(told), (pipeline.text, prices))
                less += price < price_of(pipeline.plain, prices)
        self.assertGreater(less, 20)

    def test_an_unwrap_for_the_drop(self):
        dear, cheap = dict(WORDS, drop=6), dict(WORDS, drop=5)
        rows = [("drop *", dear, 5), ("drop *", cheap, 5), ("drop *", WORDS, 3), ("drop b; cut 1", dear, 12),
                ("drop b; cut 1", WORDS, 10), ("drop b; cut 2", dear, 13), ("drop b", dear, 6),
                ("drop b; unwrap c; cut 1", dear, 17), ("drop b; cut 4; unwrap c; cut 1", dear, 24),
                ("drop b; cut 1; rename a=c", dear, 23), ("drop * - a; cut 1; rename a=c", dear, 23), ("-", dear, 0),
                ("unwrap b; cut 1", dear, 12), ("cut 1; unwrap b", dear, 12), ("cut 2; unwrap b; cut 1; drop c", dear, 24)]
        for text, prices, price in rows:
            pipeline = Pipeline.of(text)
            found = cheapest(pipeline, prices)
            self.assertEqual(found, pipeline, text)
            self.assertEqual(price_of(found, prices), price, text)

    def test_drawn_ones(self):
        random = Random(84)
        for _ in range(800):
            pipeline = drawn_pipeline(random, list("abcd"), 8, 3)
            prices = {kind: random.randint(0, 10 ** 12) for kind in random.sample(KINDS, 4)}
            found = cheapest(pipeline, prices)
            self.assertEqual(found, pipeline)
            needed = kinds_needed(pipeline)
            least = sum(many * prices[kind] for many, kind in zip(needed, KINDS))
            if needed[0] and (pipeline == NOTHING or high(pipeline.room(pick(pipeline))) == 0):
                least = min(least, least - prices["drop"] + prices["unwrap"])
            self.assertEqual(price_of(found, prices), least, (pipeline.text, prices))

    def test_prices_of_none(self):
        nothing = dict.fromkeys(KINDS, 0)
        for text in ("-", "drop *", "cut 5; unwrap b; cut 2; drop x", "rename a=b"):
            self.assertEqual(price_of(Pipeline.of(text), nothing), 0)
            self.assertEqual(price_of(cheapest(Pipeline.of(text), nothing), nothing), 0)
            self.assertEqual(cheapest(Pipeline.of(text), nothing), Pipeline.of(text))

    def test_price(self):
        self.assertEqual(price_of(Pipeline(), WORDS), 0)
        self.assertEqual(price_of(Pipeline.of("cut 5; unwrap b; cut 2; cut 7; drop x; rename a=b"), WORDS), 40)
        self.assertEqual(price_of(Pipeline.of("drop -; rename -"), WORDS), 14)
        self.assertEqual(price_of(Pipeline((Step("cut", 2),) * 40), {"drop": 0, "unwrap": 0, "cut": 10 ** 12, "rename": 0}),
                         40 * 10 ** 12)


def pick(pipeline):
    """A label that is left."""
    return [label for label in labels_told(pipeline) if pipeline.final(label) is not None][0]


class Fewest(unittest.TestCase):
    def test_as_few_as_are_needed(self):
        random = Random(85)
        for _ in range(800):
            pipeline = drawn_pipeline(random, list("abcd"), 8, 3)
            found = fewest(pipeline)
            self.assertEqual(found, pipeline)
            self.assertEqual(len(found), sum(kinds_needed(pipeline)))

    def test_forty_steps(self):
        _, pipeline = many_steps(1)
        self.assertEqual(fewest(pipeline), pipeline)
        self.assertEqual(cheapest(pipeline, WORDS), pipeline)
        self.assertEqual(len(fewest(pipeline)), sum(needed_of(pipeline)))


class Handed(unittest.TestCase):
    def test_arguments_by_the_names_shown(self):
        pipeline, prices = Pipeline.of("cut 4; drop b; cut 1"), {"drop": 9, "unwrap": 2, "cut": 1, "rename": 1}
        self.assertEqual(needless(pipeline=pipeline), (0,))
        self.assertEqual(effects(pipeline=pipeline), ("alike", "around", "around"))
        self.assertEqual(kinds_needed(pipeline=pipeline), (1, 0, 1, 0))
        self.assertEqual(price_of(prices=prices, pipeline=pipeline), 11)
        self.assertEqual(price_of(cheapest(prices=prices, pipeline=pipeline), prices), 3)
        self.assertEqual(len(fewest(pipeline=pipeline)), 2)
        self.assertEqual((pipeline.text, prices), ("cut 4; drop b; cut 1", {"drop": 9, "unwrap": 2, "cut": 1, "rename": 1}))
        self.assertEqual(cheapest(pipeline, prices).text, cheapest(pipeline, dict(reversed(prices.items()))).text)


if __name__ == "__main__":
    unittest.main()
