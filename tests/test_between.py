import itertools
import unittest
from random import Random

from deepcuts.errors import NoNumber, NotBetween
from deepcuts.forms import pipeline_of
from deepcuts.order import above, below, many_between, nth_between, over, rank_between
from deepcuts.pipelines import Pipeline
from deepcuts.steps import Step
from tests.pipes import drawn_pipeline, high, is_within, labels_told, many_steps, valid_forms
from tests.things import scrambled

MANY = 10 ** 39 + 7
NOTHING = Pipeline.of("drop *")
EIGHT = tuple("abcdefgh")


def all_over(names, rooms):
    """All Pipelines over names with these rooms."""
    return [pipeline_of(form) for form in valid_forms(names, rooms, rests=[(False, 0)])]


def is_over(pipeline, names):
    told = labels_told(pipeline)
    return all(pipeline.final(name) in ((name, None) if name in names else (None,)) for name in told) and all(
        pipeline.room(name) == 0 for name in told if name not in names)


def place_in_order(pipeline, names):
    """What the Pipelines over names are ordered by."""
    left = tuple([name for name in names if name in pipeline.left])
    others = [high(pipeline.room(name)) for name in names if name not in left]
    return (left != (), left, high(pipeline.room(left[0])) if left else 0, others)


def options(low, top, own, least):
    """How many rooms there are from low to top, 0 or from own and least on; high ones stand for None."""
    if top == high(None):
        return 1
    return (low == 0) + max(0, top - max(own, 1, low) + 1)


def counted(p, q, names):
    """How many there are from over(p, names) to over(q, names), room by room of those left, these being numbers."""
    low, top = over(p, names), over(q, names)
    many = 1 if low == NOTHING else 0
    for size in range(1, len(names) + 1):
        for left in itertools.combinations(names, size):
            must, may = [name for name in names if name in low.left], [name for name in names if name in top.left]
            if not set(must) <= set(left) <= set(may):
                continue
            for own in range(max(low.room(name) for name in left), top.room(left[0]) + 1):
                share = 1
                for name in names:
                    if name not in left:
                        share *= options(high(low.room(name)), high(top.room(name)), own, 1)
                many += share
    return many


class Over(unittest.TestCase):
    def test_it_is_the_greatest_one_within(self):
        random = Random(31)
        small = {names: all_over(names, [0, 1, 2, 3, None]) for names in ("", "a", "ab", "bd")}
        for _ in range(250):
            p = drawn_pipeline(random, list("abc"), 6, 4)
            for names, rows in small.items():
                made = over(p, tuple(names))
                self.assertTrue(is_over(made, names), (p.text, names))
                self.assertTrue(is_within(made, p))
                self.assertEqual(made.text, made.plain.text)
                for z in rows:
                    self.assertTrue(is_within(z, made) or not is_within(z, p), (p.text, z.text))

    def test_edges(self):
        for p in (Pipeline(), NOTHING, Pipeline.of("cut 3; unwrap a")):
            self.assertEqual(over(p, ()).text, "drop *")
        self.assertEqual(over(Pipeline(), EIGHT).text, "drop * - a b c d e f g h")
        self.assertEqual(over(NOTHING, EIGHT).text, "drop *")
        self.assertEqual(over(Pipeline.of("unwrap a b"), ("a", "b")).text, "drop *")
        self.assertEqual(over(Pipeline.of("rename a=b b=a; cut 2"), ("a",)).text, "drop * - a; cut 2")
        self.assertEqual(over(Pipeline.of(f"cut {MANY}; unwrap b"), ("a", "b", "zz")).text,
                         f"drop * - a b zz; cut {MANY}; unwrap b")

    def test_forty_names(self):
        names, p = many_steps(0)
        names = tuple(sorted(names))
        made = over(p, names)
        for name in names:
            self.assertEqual(made.room(name), p.room(name))
            self.assertIs(name in made.left, name in p.left)
        self.assertEqual((made.room("zz"), made.final("zz")), (0, None))


class Next(unittest.TestCase):
    """above and below, beside all that is in between."""

    def told(self, p, names, rows, between):
        made = over(p, names)
        around = [z for z in between if z != made and is_within(made, z)]
        inside = [z for z in between if z != made and is_within(z, made)]
        nearest = [z for z in rows if z in around and not any(is_within(w, z) and w != z for w in around)]
        lowest = [z for z in rows if z in inside and not any(is_within(z, w) and w != z for w in inside)]
        for found, wanted in ((above(p, names), nearest), (below(p, names), lowest)):
            self.assertIsInstance(found, list)
            self.assertEqual(sorted([z.text for z in found]), sorted([z.text for z in wanted]), (p.text, names))
            for z in found:
                self.assertTrue(is_over(z, names))
                self.assertEqual(z.text, z.plain.text)

    def test_one_name(self):
        rooms = [0, 1, 2, 3, None]
        for p in all_over("a", rooms):
            self.told(p, ("a",), all_over("a", rooms + [4]), all_over("a", rooms + [4, 5]))

    def test_two_names(self):
        rows, between = all_over("ab", [0, 1, 2, 3, None]), all_over("ab", [0, 1, 2, 3, 4, None])
        for p in all_over("ab", [0, 1, 2, None]):
            self.told(p, ("a", "b"), rows, between)

    def test_three_names(self):
        rows, between = all_over("abc", [0, 1, 2, None]), all_over("abc", [0, 1, 2, 3, None])
        for p in Random(32).sample(all_over("abc", [0, 1, None]), 15):
            self.told(p, ("a", "b", "c"), rows, between)

    def test_drawn_ones_with_renames_and_other_labels(self):
        random = Random(33)
        rows, between = all_over("ab", [0, 1, 2, 3, None]), all_over("ab", [0, 1, 2, 3, 4, None])
        for _ in range(30):
            self.told(drawn_pipeline(random, list("abc"), 6, 3), ("a", "b"), rows, between)

    def test_one_above_is_within_each_one_around(self):
        rows = all_over("ab", [0, 1, 2, 3, None])
        for p in rows:
            found = above(p, ("a", "b"))
            for z in rows:
                if is_within(p, z) and p != z:
                    self.assertTrue(any(is_within(one, z) for one in found), (p.text, z.text))

    def test_without_end(self):
        rows = {"drop * - a": [], "drop * - a b; unwrap b; cut 1": [], "drop * - a b; unwrap b": ["drop * - a"],
                "drop * - a b; unwrap b; cut 3": ["drop * - a b; unwrap b; cut 2"],
                "drop * - a b": ["drop * - a b; unwrap a", "drop * - a b; unwrap b"]}
        for text, wanted in rows.items():
            self.assertEqual(sorted([z.text for z in below(Pipeline.of(text), ("a", "b"))]), wanted, text)

    def test_no_names_and_nothing_left(self):
        for p in (Pipeline(), NOTHING, Pipeline.of("cut 3")):
            self.assertEqual((above(p, ()), below(p, ())), ([], []))
        self.assertEqual(below(NOTHING, EIGHT), [])
        self.assertEqual([z.text for z in above(NOTHING, EIGHT)], [f"drop * - {name}; cut 1" for name in EIGHT])

    def test_forty_names_and_forty_digits(self):
        names, p = many_steps(0)
        names = tuple(sorted(names))
        made = over(p, names)
        for found, order in ((above(p, names), is_within), (below(p, names), lambda z, w: is_within(w, z))):
            self.assertGreater(len(found), 20)
            for z in found:
                self.assertTrue(order(made, z) and z != made and is_over(z, names))
            self.assertEqual(len({z.text for z in found}), len(found))
        self.assertIn(f"drop * - a; cut {MANY + 1}", [z.text for z in above(Pipeline.of(f"cut {MANY}"), ("a",))])
        self.assertIn(f"drop * - a; cut {MANY - 1}", [z.text for z in below(Pipeline.of(f"cut {MANY}"), ("a",))])

    def test_lists_are_new(self):
        p = Pipeline.of("cut 2; unwrap b")
        for function in (above, below):
            first = function(p, ("a", "b"))
            texts = [z.text for z in first]
            first.clear()
            self.assertEqual([z.text for z in function(p, ("a", "b"))], texts)


class Between(unittest.TestCase):
    def told(self, p, q, names, rows):
        """Compares with rows, all Pipelines over names that may be in between; returns how many there are."""
        low, top = over(p, names), over(q, names)
        inner = [z for z in rows if is_within(low, z) and is_within(z, top)]
        inner = sorted(inner, key=lambda z: place_in_order(z, names))
        self.assertEqual(many_between(p, q, names), len(inner), (p.text, q.text))
        for number, z in enumerate(inner):
            self.assertEqual(nth_between(p, q, names, number).text, z.text, (p.text, q.text, number))
            self.assertEqual(rank_between(p, q, names, z), number)
        for number in (-1, len(inner), len(inner) + 1, -len(inner) - 1, 10 ** 40, -10 ** 40):
            with self.assertRaises(NoNumber) as caught:
                nth_between(p, q, names, number)
            self.assertEqual(vars(caught.exception), {"number": number})
        for z in Random(len(inner)).sample(rows, min(4, len(rows))):
            if z not in inner:
                self.strange(p, q, names, z)
        return len(inner)

    def strange(self, p, q, names, third):
        with self.assertRaises(NotBetween) as caught:
            rank_between(p, q, names, third)
        self.assertEqual(vars(caught.exception), {"strange": third.form})

    def endless(self, p, q, names):
        self.assertIsNone(many_between(p, q, names), (p.text, q.text))
        for number in (-1, 0, 1, 10 ** 40):
            with self.assertRaises(NoNumber):
                nth_between(p, q, names, number)

    def pair(self, p, q, names, few, more):
        """Where more rooms make more of them, they are endlessly many."""
        low, top = over(p, names), over(q, names)
        many = [len([z for z in rows if is_within(low, z) and is_within(z, top)]) for rows in (few, more)]
        if many[0] == many[1]:
            self.told(p, q, names, few)
        else:
            self.endless(p, q, names)
        return many[0] != many[1]

    def test_all_pairs_over_one_name(self):
        few = all_over("a", [0, 1, 2, 3, None])
        more = all_over("a", [0, 1, 2, 3, 4, None])
        for p, q in itertools.product(few, repeat=2):
            self.pair(p, q, ("a",), few, more)

    def test_all_pairs_over_two_names(self):
        few, more = all_over("ab", [0, 1, 2, None]), all_over("ab", [0, 1, 2, 3, None])
        endless = 0
        for p, q in itertools.product(few, repeat=2):
            endless += self.pair(p, q, ("a", "b"), few, more)
        self.assertGreater(endless, 50)

    def test_three_names(self):
        few, more = all_over("abc", [0, 1, 2, None]), all_over("abc", [0, 1, 2, 3, None])
        random = Random(34)
        for _ in range(25):
            p = random.choice(few)
            q = random.choice([z for z in few if is_within(p, z)])
            self.pair(p, q, ("a", "b", "c"), few, more)

    def test_drawn_ones_with_renames_and_other_labels(self):
        random = Random(35)
        few, more = all_over("ab", [0, 1, 2, 3, None]), all_over("ab", [0, 1, 2, 3, 4, None])
        for _ in range(80):
            p, q = drawn_pipeline(random, list("abc"), 4, 4), drawn_pipeline(random, list("abc"), 4, 4)
            self.pair(p if random.random() < 0.3 else q >> p, q, ("a", "b"), few, more)

    def test_sums_over_many_rooms(self):
        random = Random(36)
        for _ in range(60):
            names = tuple(sorted(random.sample(EIGHT, random.randint(1, 6))))
            rows = [f"cut {random.randint(20, 60)}; unwrap {name}" for name in names if random.random() < 0.5]
            q = Pipeline.of("; ".join(rows + [f"cut {random.randint(1, 40)}"]))
            some = ["cut 3", "cut 9; unwrap a", "unwrap b; cut 5", "drop c", "drop *"]
            p = Pipeline.of("; ".join(random.sample(some, 2))) & q
            names = tuple([name for name in names if q.room(name) is not None])
            many = many_between(p, q, names)
            self.assertEqual(many, counted(p, q, names), (p.text, q.text, names))
            self.there_and_back(p, q, names, [0, 1, many // 3, many // 2, many - 2, many - 1])

    def there_and_back(self, p, q, names, numbers):
        before = None
        for number in sorted({number for number in numbers if 0 <= number < many_between(p, q, names)}):
            z = nth_between(p, q, names, number)
            self.assertEqual(rank_between(p, q, names, z), number)
            self.assertTrue(is_over(z, names) and is_within(over(p, names), z) and is_within(z, q))
            self.assertTrue(before is None or before < place_in_order(z, names))
            self.assertEqual(z.text, z.plain.text)
            before = place_in_order(z, names)

    def test_eight_names(self):
        q = Pipeline.of("cut 9; unwrap a b; cut 6; unwrap c; cut 4; unwrap d; cut 3")
        p = Pipeline.of("drop a c e; cut 4; unwrap b d; cut 2; unwrap f")
        for low in (p & q, NOTHING, q):
            many = many_between(low, q, EIGHT)
            self.assertEqual(many, counted(low, q, EIGHT))
            self.there_and_back(low, q, EIGHT, [many * part // 17 for part in range(18)] + [many - 1, 0, 1])
        self.assertEqual(many_between(q, q, EIGHT), 1)

    def test_forty_digits(self):
        q = Pipeline([Step("cut", 10 ** 40), Step.of("unwrap a"), Step("cut", 10 ** 39), Step.of("unwrap b c"),
                      Step("cut", MANY // 3)])
        p = Pipeline.of("drop a c d; cut 7; unwrap b; cut 3")
        for low in (p, NOTHING):
            many = many_between(low, q, EIGHT)
            self.assertGreater(many, 10 ** 40)
            self.there_and_back(low, q, EIGHT, [many * part // 7 for part in range(8)] + [many - 1, 0, 1])
            with self.assertRaises(NoNumber):
                nth_between(low, q, EIGHT, many)

    def test_forty_digits_by_hand(self):
        # One label with room up to n - 1, or nothing; two labels: both left, one left and the other one less, or gone.
        for n in (1, 2, 5, MANY):
            q = Pipeline([Step("cut", n)])
            self.assertEqual(many_between(NOTHING, q, ("a",)), n + 1)
            rooms = n - 1
            # With room k of the one left the other one has 0, or from max(k, 1) to rooms: rooms - max(k, 1) + 2 ways.
            one = (rooms + 1) + rooms * (rooms + 3) // 2 if n > 1 else 1
            self.assertEqual(many_between(NOTHING, q, ("a", "b")), 1 + n + 2 * one)
        q = Pipeline([Step("cut", MANY)])
        self.assertEqual(nth_between(NOTHING, q, ("a",), MANY).text, f"drop * - a; cut {MANY}")
        self.assertEqual(rank_between(NOTHING, q, ("a",), Pipeline.of("drop * - a; cut 5")), 5)

    def test_endlessly_many(self):
        rows = [("drop *", "-"), ("cut 5", "-"), ("cut 5; unwrap b", "unwrap b; cut 5"),
                ("drop b; cut 5", "unwrap b; cut 5"),
                ("drop *", "unwrap b; cut 1"), ("cut 2; unwrap b", "-"), ("drop * - a; cut 1", "drop * - a")]
        for p, q in rows:
            self.endless(Pipeline.of(p), Pipeline.of(q), ("a", "b"))
        # Rooms without end are not endlessly many, if they must be without end, or 0.
        some = [("unwrap b", "-", 2), ("drop b", "-", 3), ("unwrap b; cut 3", "unwrap b; cut 5", 3),
                ("drop a b", "drop a b", 1)]
        for p, q, many in some:
            self.assertEqual(many_between(Pipeline.of(p), Pipeline.of(q), ("a", "b")), many)
        made = [nth_between(Pipeline.of("drop b"), Pipeline(), ("a", "b"), number).text for number in range(3)]
        self.assertEqual(made, ["drop * - a", "drop * - a b; unwrap b", "drop * - a b"])

    def test_one_of_endlessly_many_has_no_number(self):
        self.assertIsNone(rank_between(NOTHING, Pipeline(), ("a",), Pipeline.of("drop * - a; cut 5")))
        self.strange(NOTHING, Pipeline(), ("a",), Pipeline.of("drop * - b; cut 5"))

    def test_no_names(self):
        for p, q in itertools.product((Pipeline(), NOTHING, Pipeline.of("cut 3; unwrap a")), repeat=2):
            self.assertEqual(many_between(p, q, ()), 1)
            self.assertEqual(nth_between(p, q, (), 0).text, "drop *")
            self.assertEqual(rank_between(p, q, (), NOTHING), 0)
            with self.assertRaises(NoNumber):
                nth_between(p, q, (), 1)

    def test_none_in_between(self):
        p, q = Pipeline.of("unwrap b; cut 2"), Pipeline.of("cut 2; unwrap b")
        self.assertEqual(many_between(p, q, ("a", "b")), 0)
        for number in (0, -1, 1):
            with self.assertRaises(NoNumber):
                nth_between(p, q, ("a", "b"), number)
        for third in (p, q, over(p, ("a", "b")), NOTHING):
            self.strange(p, q, ("a", "b"), third)

    def test_pipelines_that_are_none_of_them(self):
        p, q = NOTHING, Pipeline.of("cut 3; unwrap b; cut 2")
        texts = ["-", "cut 1", "drop * - a b c; cut 1", "drop * - a; cut 3", "drop * - a; cut 1; rename a=b",
                 "drop * - c; cut 1"]
        texts += ["drop * - a b; cut 4; unwrap b; cut 1", "drop * - a b; cut 1", "drop * - b; cut 1",
                  "rename a=b b=a; drop * - a; cut 1"]
        texts += ["drop * - a; cut 2; unwrap *; cut 1; drop *"]
        for text in texts[:-1]:
            self.strange(p, q, ("a", "b"), Pipeline.of(text))
        self.assertEqual(rank_between(p, q, ("a", "b"), Pipeline.of(texts[-1])), 0)
        alike = Pipeline.of("cut 9; unwrap * - a; drop *; rename a=b")
        self.assertEqual(rank_between(p, q, ("a", "b"), alike), 0)
        one = Pipeline.of("cut 3; unwrap b; drop * - a; rename a=b; rename b=a; cut 2")
        self.assertEqual(nth_between(p, q, ("a", "b"), rank_between(p, q, ("a", "b"), one)), one)


class Handed(unittest.TestCase):
    def test_lists_for_tuples(self):
        p, q, third = Pipeline.of("drop *"), Pipeline.of("cut 3; unwrap b; cut 2"), Pipeline.of("drop * - a; cut 1")
        calls = [lambda names: over(p, names).text, lambda names: [z.text for z in above(q, names)],
                 lambda names: [z.text for z in below(q, names)], lambda names: many_between(p, q, names),
                 lambda names: nth_between(p, q, names, 3).text, lambda names: rank_between(p, q, names, third)]
        for call in calls:
            handed = ["a", "b"]
            self.assertEqual(call(handed), call(("a", "b")))
            self.assertEqual(handed, ["a", "b"])
        handed = ["a", "b"]
        made = over(q, handed)
        scrambled(handed)
        self.assertEqual(made.text, "drop * - a b; cut 3; unwrap b; cut 2")

    def test_arguments_by_the_names_shown(self):
        p, q, names = Pipeline.of("drop *"), Pipeline.of("cut 2"), ("a", "b")
        self.assertEqual(over(names=names, p=q), over(q, names))
        self.assertEqual(above(names=names, p=p), above(p, names))
        self.assertEqual(below(names=names, p=q), below(q, names))
        self.assertEqual(many_between(names=names, q=q, p=p), 11)
        self.assertEqual(nth_between(number=1, names=names, q=q, p=p).text, "drop * - a; cut 1")
        self.assertEqual(rank_between(third=Pipeline.of("drop * - a; cut 1"), names=names, q=q, p=p), 1)


if __name__ == "__main__":
    unittest.main()
