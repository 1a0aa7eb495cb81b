import itertools
import unittest
from math import lcm
from random import Random

from deepcuts.behind import (common_end, either_order, first_ones, front_of, how_often, idle_behind, renames, rest_of,
                             settles, steady)
from deepcuts.forms import pipeline_of
from deepcuts.pipelines import Pipeline
from deepcuts.steps import Step
from tests.pipes import drawn_forest, drawn_pipeline, high, is_within, labels_told, many_steps, valid_forms

MANY = 10 ** 39 + 7
NOTHING = Pipeline.of("drop *")


def comes_out(p, name):
    """Whether this name can come out of p."""
    return any(p.final(label) == name for label in labels_told(p) + [name])


def passed_by(p, x, names):
    """Whether x leaves all names that can not come out of p, under their own names."""
    return all(comes_out(p, name) or x.final(name) == name for name in names)


def has_rest(p, whole):
    """Whether p can be gone on with to the whole one, by the words of the document."""
    if whole == NOTHING:
        return True
    alike = {}
    for label in labels_told(p, whole):
        told = whole.final(label), whole.room(label)
        if p.final(label) is None:
            if told != (None, p.room(label)):
                return False
        elif high(told[1]) > high(p.room(label)) or alike.setdefault(p.final(label), told) != told:
            return False
    return True


def has_front(p, whole):
    """Whether the whole one can be come to with p as its end, by the words of the document."""
    if whole == NOTHING:
        return True
    if p == NOTHING or high(whole.depth) > high(p.depth):
        return False
    labels = labels_told(p, whole)
    lasts = {p.final(label) for label in labels}
    return all(whole.final(label) in lasts for label in labels if whole.final(label) is not None)


def lots_of(p, other):
    """The lots of labels that go together."""
    lots = [{label} for label in labels_told(p, other)]
    for one in (p, other):
        for label, more in itertools.combinations(labels_told(p, other), 2):
            if one.final(label) is not None and one.final(label) == one.final(more):
                joined = [lot for lot in lots if label in lot or more in lot]
                lots = [lot for lot in lots if lot not in joined] + [set().union(*joined)]
    return lots


def has_end(p, other):
    """Whether both have a common end that leaves some label, by the words of the document."""
    some = False
    for lot in lots_of(p, other):
        gone = {one.room(label) for one in (p, other) for label in lot if one.final(label) is None}
        some = some or not gone
        if len(gone) > 1:
            return False
        limits = [high(one.room(label)) for one in (p, other) for label in lot if one.final(label) is not None]
        if gone and any(high(room) > limit for room in gone for limit in limits):
            return False
    return some


def text_of(found):
    return None if found is None else found.text


def powers(p, many):
    """p as often as 0, 1, .. many times, step by step."""
    rows = [Pipeline()]
    for _ in range(many):
        rows.append((rows[-1] >> p).plain)
    return rows


class Rest(unittest.TestCase):
    def good(self, p, whole, x):
        self.assertEqual(p >> x, whole, (p.text, whole.text))
        self.assertEqual(x.text, x.plain.text)
        self.assertTrue(passed_by(p, x, labels_told(p, whole, x)), (p.text, whole.text, x.text))

    def all_small(self, ps, xs, wholes):
        for p in ps:
            behind = {}
            for x in xs:
                behind.setdefault((p >> x).form, []).append(x)
            for whole in wholes:
                x = rest_of(p, whole)
                found = behind.get(whole.form, [])
                self.assertIs(x is None, not found, (p.text, whole.text))
                if x is not None:
                    self.good(p, whole, x)
                    for z in found:
                        if passed_by(p, z, ["a", "b", "c", "zz"]):
                            self.assertTrue(is_within(z, x), (p.text, whole.text, z.text))

    def test_all_small_ones_over_one_name(self):
        small = [pipeline_of(form) for form in valid_forms("a", [0, 1, 2, 3, None], ["a", "b"])]
        first = [p for p in small if not renames(p)]
        self.all_small(first, small, small)

    def test_small_ones_with_renames(self):
        ps = [pipeline_of(form) for form in valid_forms("ab", [0, 1, None], ["a", "b"])]
        rows = [pipeline_of(form) for form in valid_forms("ab", [0, 1, None], ["a", "b", "c"])]
        self.all_small(Random(41).sample(ps, 40), rows, rows)

    def test_drawn_ones(self):
        random = Random(42)
        none = 0
        for _ in range(800):
            p, q = drawn_pipeline(random, list("abcd")), drawn_pipeline(random, list("abcd"), 3)
            whole = (p >> q).plain
            x = rest_of(p, whole)
            self.good(p, whole, x)
            if passed_by(p, q, labels_told(p, q)):
                self.assertTrue(is_within(q, x), (p.text, q.text))
            x = rest_of(p, q)
            self.assertIs(x is not None, has_rest(p, q), (p.text, q.text))
            none += x is None
            if x is not None:
                self.good(p, q, x)
        self.assertGreater(none, 200)

    def test_edges(self):
        rows = [("-", "-", "-"), ("cut 2", "cut 2", "-"), ("cut 3", "cut 2", "cut 2"), ("cut 2", "cut 3", None),
                ("-", "drop *", "drop *"),
                ("drop *", "drop *", "-"), ("drop *", "-", None), ("drop * - a", "drop *", "unwrap a"),
                ("drop a", "drop *", "unwrap * - a"),
                ("rename a=b", "drop *", "unwrap * - a"), ("cut 1", "drop a; cut 1", "unwrap a"),
                ("cut 1", "cut 1; unwrap a", "unwrap a"),
                ("unwrap a", "drop a", None), ("drop a", "unwrap a", None),
                ("cut 4; unwrap a", "cut 4; unwrap a; cut 2", "cut 2"),
                ("cut 4", "cut 4; unwrap a; cut 2", "unwrap a; cut 2"),
                ("cut 5", "cut 4; unwrap a; cut 2", "cut 4; unwrap a; cut 2"),
                ("rename a=b b=a", "-", "rename a=b b=a"), ("rename a=b", "-", None),
                ("rename a=b", "drop a b", "drop b"),
                ("rename a=b", "drop a", None), ("rename a=b; drop b", "drop a b; cut 1", "cut 1"),
                (f"cut {MANY + 1}", f"cut {MANY}", f"cut {MANY}"), (f"cut {MANY}", f"cut {MANY + 1}", None)]
        for p, whole, x in rows:
            found = rest_of(Pipeline.of(p), Pipeline.of(whole))
            self.assertEqual(text_of(found), x, (p, whole))

    def test_forty_names(self):
        (names, p), (_, q) = many_steps(0), many_steps(1)
        self.good(p, p >> q, rest_of(p, p >> q))
        self.good(p, p, rest_of(p, p))
        front = front_of(q, p >> q)
        self.assertEqual(front >> q, p >> q)
        self.assertEqual(len(names), 40)


class Front(unittest.TestCase):
    def test_small_ones(self):
        ps = [pipeline_of(form) for form in valid_forms("ab", [0, 1, None], ["a", "b"])]
        rows = [pipeline_of(form) for form in valid_forms("ab", [0, 1, None], ["a", "b", "c"])]
        for p in Random(43).sample(ps, 40):
            ahead = {(x >> p).form for x in rows}
            for whole in rows:
                x = front_of(p, whole)
                self.assertIs(x is not None, whole.form in ahead, (p.text, whole.text))
                if x is not None:
                    self.assertEqual(x >> p, whole)
                    self.assertEqual(x.text, x.plain.text)

    def test_drawn_ones(self):
        random = Random(44)
        seen = 0
        for _ in range(800):
            p, q = drawn_pipeline(random, list("abcd")), drawn_pipeline(random, list("abcd"))
            self.assertEqual(front_of(p, q >> p) >> p, q >> p)
            x = front_of(p, q)
            self.assertIs(x is not None, has_front(p, q), (p.text, q.text))
            if x is not None:
                self.assertEqual(x >> p, q)
                seen += q != NOTHING
        self.assertGreater(seen, 20)

    def test_edges(self):
        rows = [("-", "-", "-"), ("drop *", "drop *", "drop *"), ("-", "drop *", "drop *"), ("drop *", "-", None),
                ("cut 2", "-", None),
                ("cut 2", "cut 2", "cut 2"), ("cut 2", "cut 1", "cut 1"), ("cut 1", "cut 2", None),
                ("drop a", "drop a", "drop a"),
                ("drop a", "unwrap a", "unwrap a"), ("drop a", "-", None), ("drop a", "rename a=b", "rename a=b"),
                ("rename a=b", "-", None), ("drop * - a", "drop a", None),
                ("drop * - a", "drop * - b; rename b=a", "drop * - b; rename b=a"),
                ("cut 9; unwrap a", "unwrap a; cut 4", "unwrap a; cut 4"), (f"cut {MANY}", f"cut {MANY + 1}", None)]
        for p, whole, x in rows:
            found = front_of(Pipeline.of(p), Pipeline.of(whole))
            self.assertEqual(text_of(found), x, (p, whole))


class Words(unittest.TestCase):
    """either_order, steady, idle_behind, renames, first_ones."""

    def test_drawn_ones(self):
        random = Random(45)
        seen = {name: 0 for name in ("either", "steady", "idle", "renames")}
        for _ in range(800):
            p, q = drawn_pipeline(random, list("abc"), 3, 3), drawn_pipeline(random, list("abc"), 3, 3)
            self.assertIs(either_order(p, q), (p >> q).form == (q >> p).form)
            self.assertIs(steady(p), (p >> p).form == p.form)
            self.assertIs(idle_behind(p, q), (p >> q).form == p.form)
            changed = any(p.final(label) not in (None, label) for label in labels_told(p))
            self.assertIs(renames(p), changed)
            seen["either"] += either_order(p, q)
            seen["steady"] += steady(p)
            seen["idle"] += idle_behind(p, q)
            seen["renames"] += changed
        self.assertTrue(all(50 < many < 790 for many in seen.values()), seen)

    def test_as_forests_show(self):
        random = Random(46)
        for _ in range(300):
            p, q = drawn_pipeline(random, list("abc"), 3, 3), drawn_pipeline(random, list("abc"), 3, 3)
            for forest in [drawn_forest(random, 15, list("abcd")) for _ in range(3)]:
                if either_order(p, q):
                    self.assertEqual(p(q(forest)), q(p(forest)))
                if steady(p):
                    self.assertEqual(p(p(forest)), p(forest))
                if idle_behind(p, q):
                    self.assertEqual(q(p(forest)), p(forest))

    def test_renames(self):
        rows = {"-": False, "rename -": False, "rename a=b": True, "rename a=b b=a": True,
                "rename a=b; rename b=a": True,
                "rename a=b; drop b": False, "drop a; rename a=b": False, "drop *": False,
                "rename a=b b=a; rename a=b b=a": False,
                "drop a b; rename a=b b=a": False, "rename a=c; rename c=a; unwrap c": True,
                "rename a=b; drop *": False}
        for text, told in rows.items():
            self.assertIs(renames(Pipeline.of(text)), told, text)

    def test_without_renames_what_has_been_done_once_does_nothing_any_more(self):
        random = Random(47)
        for _ in range(300):
            rows = [drawn_pipeline(random, list("abc"), 3, 3) for _ in range(3)]
            rows = [row for row in rows if not renames(row)]
            sequence = [random.choice(rows) for _ in range(6)] if rows else []
            whole, few = Pipeline(), Pipeline()
            for one in sequence:
                self.assertIs(steady(one), True)
                whole = whole >> one
            for one in first_ones(tuple(sequence)):
                few = few >> one
            self.assertEqual(whole, few)

    def test_first_ones(self):
        random = Random(48)
        for _ in range(200):
            rows = [drawn_pipeline(random, list("ab"), 2, 2) for _ in range(random.randint(0, 8))]
            wanted = []
            for one in rows:
                if not any(one == other for other in wanted):
                    wanted.append(one)
            found = first_ones(tuple(rows))
            self.assertIsInstance(found, tuple)
            self.assertEqual([one.text for one in found], [one.text for one in wanted])
        self.assertEqual(first_ones(()), ())
        self.assertEqual(len(first_ones([Pipeline.of("cut 1; unwrap b"), Pipeline.of("drop b; cut 1"), NOTHING])), 2)

    def test_lists_handed_in_stay(self):
        handed = [NOTHING, Pipeline(), NOTHING]
        found = first_ones(handed)
        self.assertEqual([one.text for one in handed], ["drop *", "-", "drop *"])
        handed.clear()
        self.assertEqual([one.text for one in found], ["drop *", "-"])


class End(unittest.TestCase):
    def good(self, p, other, end):
        self.assertNotEqual(end, NOTHING)
        self.assertEqual(end.text, end.plain.text)
        for one in (p, other):
            self.assertTrue(has_rest(one, end), (p.text, other.text, end.text))
            self.assertEqual(one >> rest_of(one, end), end)
        for lot in lots_of(p, other):
            for label in lot:
                self.assertIn(end.final(label), (None, min(lot)), (p.text, other.text, end.text))

    def test_small_ones(self):
        ps = [pipeline_of(form) for form in valid_forms("ab", [0, 1, None], ["a", "b"])]
        wholes = [pipeline_of(form) for form in valid_forms("ab", [0, 1, None], ["a", "b"])]
        random = Random(49)
        reached = {p.form: [w for w in wholes if w != NOTHING and has_rest(p, w)] for p in ps}
        some = 0
        for _ in range(1500):
            p, other = random.choice(ps), random.choice(ps)
            both = [w for w in reached[p.form] if any(w is one for one in reached[other.form])]
            end = common_end(p, other)
            self.assertIs(end is None, not both, (p.text, other.text))
            if end is not None:
                self.good(p, other, end)
                some += 1
                for w in both:
                    self.assertTrue(is_within(w, end), (p.text, other.text, w.text))
        self.assertGreater(some, 100)

    def test_drawn_ones(self):
        random = Random(50)
        some = 0
        for _ in range(1500):
            p = drawn_pipeline(random, list("abcde"), 3, 4)
            other = drawn_pipeline(random, list("abcde"), 3, 4)
            if random.random() < 0.5:
                base = drawn_pipeline(random, list("abcde"), 3, 4)
                p, other = base >> p, base >> other
            end = common_end(p, other)
            self.assertIs(end is not None, has_end(p, other), (p.text, other.text))
            if end is not None:
                self.good(p, other, end)
                some += 1
        self.assertGreater(some, 200)

    def test_without_renames_it_is_there_if_the_two_may_be_exchanged(self):
        random = Random(51)
        for _ in range(800):
            p, other = drawn_pipeline(random, list("ab"), 3, 3), drawn_pipeline(random, list("ab"), 3, 3)
            if not renames(p) and not renames(other):
                end = common_end(p, other)
                self.assertIs(end is not None, either_order(p, other) and p >> other != NOTHING, (p.text, other.text))
                if end is not None:
                    self.assertEqual(end, p >> other)

    def test_edges(self):
        rows = [("-", "-", "-"), ("drop *", "drop *", None), ("drop *", "-", None), ("drop a", "drop * - a", None),
                ("rename a=b", "rename b=a", "rename b=a"), ("rename b=c", "rename a=b", "rename b=a c=a"),
                ("rename a=b", "rename a=c", "rename b=a c=a"), ("rename a=b b=a", "-", "-"),
                ("rename a=b", "drop a", "drop a b"),
                ("rename a=b", "unwrap a", "unwrap a b"), ("rename a=b; cut 2", "unwrap a", None),
                ("cut 2", "cut 3", "cut 2"),
                ("rename a=b; cut 2", "cut 2; unwrap a", "cut 2; unwrap a b"), ("drop a", "unwrap a", None),
                ("cut 3", "drop a", "drop a; cut 3"),
                ("rename a=b; cut 9", "drop a; rename b=c; cut 5", "drop a b c; cut 5"),
                ("drop * - a b", "drop * - b c", "drop * - b"),
                (f"cut {MANY}; unwrap a", f"cut {MANY}", f"cut {MANY}; unwrap a")]
        for p, other, wanted in rows:
            for one, two in ((p, other), (other, p)):
                end = common_end(Pipeline.of(one), Pipeline.of(two))
                self.assertEqual(text_of(end), wanted, (one, two))

    def test_forty_names(self):
        names, _ = many_steps(0)
        p = Pipeline([Step("rename", [(name, other) for name, other in zip(names[::2], names[1::2])])])
        other = Pipeline([Step("rename", [(name, more) for name, more in zip(names[1:-1:2], names[2::2])])])
        end = common_end(p, other)
        self.good(p, other, end)
        self.assertEqual({end.final(name) for name in names}, {min(names)})


class Times(unittest.TestCase):
    def drawn(self, random):
        p = drawn_pipeline(random, list("abcdef"), 3, 3)
        if random.random() < 0.7:
            # Mostly many names that go round, and some that go into a ring.
            letters = "abcdef"
            p = p >> Step("rename", [(name, random.choice(letters)) for name in letters if random.random() < 0.9])
        return p

    def test_settles(self):
        random = Random(52)
        seen = set()
        for _ in range(500):
            p = self.drawn(random)
            rows = [one.form for one in powers(p, 30)]
            pairs = itertools.product(range(12), range(1, 13))
            wanted = min([(first, period) for first, period in pairs if rows[first] == rows[first + period]])
            self.assertEqual(settles(p), wanted, p.text)
            self.assertIsInstance(settles(p), tuple)
            seen.add(wanted)
        self.assertGreater(len(seen), 8)

    def test_how_often(self):
        random = Random(53)
        seen = [0, 0]
        for _ in range(500):
            p = self.drawn(random)
            rows = powers(p, 30)
            others = [random.choice(rows), self.drawn(random), random.choice(rows) >> self.drawn(random), Pipeline(),
                      NOTHING]
            for other in others:
                wanted = next((times for times, one in enumerate(rows) if one == other), None)
                self.assertEqual(how_often(p, other), wanted, (p.text, other.text))
                seen[wanted is None] += 1
        self.assertGreater(min(seen), 200)

    def test_edges(self):
        rows = {"-": (0, 1), "drop *": (1, 1), "cut 3": (1, 1), "rename a=b b=a": (0, 2), "rename a=b": (1, 1),
                "rename a=b b=c c=d": (3, 1),
                "drop * - a; rename a=b": (2, 1), "drop * - a b c; rename a=b b=c": (2, 1),
                "drop * - a b c; rename a=b b=c c=d": (4, 1),
                "rename a=b b=c c=b": (1, 2), "rename a=b b=a c=d d=e e=c": (0, 6), "rename a=b b=a; drop a": (2, 1),
                "rename a=b b=a; cut 2": (1, 2), f"rename a=b b=c; cut {MANY}; unwrap c": (2, 1), "rename -": (0, 1)}
        for text, wanted in rows.items():
            self.assertEqual(settles(Pipeline.of(text)), wanted, text)
        ring = Pipeline.of("rename a=b b=c c=a; cut 5")
        self.assertEqual([how_often(ring, ring * times) for times in (0, 1, 2, 3, 4, 10 ** 40)], [0, 1, 2, 3, 1, 1])
        self.assertIsNone(how_often(ring, Pipeline.of("rename a=b b=a; cut 5")))
        self.assertIsNone(how_often(ring, Pipeline.of("rename a=b b=c c=a; cut 4")))
        self.assertIsNone(how_often(Pipeline(), Pipeline.of("cut 1")))
        self.assertEqual(how_often(Pipeline.of("drop * - a; rename a=b"), NOTHING), 2)
        self.assertEqual(how_often(NOTHING, NOTHING), 1)

    def test_forty_names_in_rings(self):
        names, _ = many_steps(0)
        pairs, at = [], 0
        for size in (5, 7, 8, 9, 10):
            ring, at = names[at:at + size], at + size
            pairs += list(zip(ring, ring[1:] + ring[:1]))
        turn = Pipeline([Step("cut", 10 ** 40), Step("rename", pairs + [(names[39], names[0])])])
        period = lcm(5, 7, 8, 9, 10)
        self.assertEqual(settles(turn), (1, period))
        for times in (1, 2, 30, 1234, period - 1, period):
            self.assertEqual(how_often(turn, turn * times), times)
        self.assertEqual(how_often(turn, turn * 10 ** 40), 10 ** 40 % period or period)
        path = Pipeline([Step("rename", list(zip(names, names[1:])))])
        self.assertEqual(settles(path), (39, 1))
        self.assertEqual(how_often(path, path * MANY), 39)
        # Two rings that never stand so at once.
        odd = Pipeline.of("rename a=b b=a c=d d=c")
        self.assertIsNone(how_often(odd, Pipeline.of("rename a=b b=a")))
        self.assertIsNone(how_often(Pipeline.of("rename a=b b=c c=d d=a e=f f=e"),
                                    Pipeline.of("rename a=c b=d c=a d=b e=f f=e")))


class Handed(unittest.TestCase):
    def test_arguments_by_the_names_shown(self):
        p, more = Pipeline.of("cut 2; unwrap b"), Pipeline.of("drop c")
        self.assertEqual(rest_of(whole=p >> more, p=p).text, "drop c")
        self.assertEqual(front_of(whole=p >> more, p=more) >> more, p >> more)
        self.assertIs(either_order(other=more, p=p), True)
        self.assertIs(steady(p=p), True)
        self.assertIs(idle_behind(other=Pipeline.of("cut 5"), p=p), True)
        self.assertIs(renames(p=p), False)
        self.assertEqual([one.text for one in first_ones(pipelines=[p, p])], [p.text])
        self.assertEqual(common_end(other=more, p=p).text, "drop c; cut 2; unwrap b")
        self.assertEqual(settles(p=p), (1, 1))
        self.assertEqual(how_often(other=p, p=p), 1)

    def test_nothing_handed_in_changes(self):
        p, more = Pipeline.of("cut 2; rename a=b"), Pipeline.of("drop c; rename b=a")

        def made():
            found = [rest_of(p, p >> more), front_of(more, p >> more), either_order(p, more), steady(p),
                     idle_behind(p, more)]
            return found + [renames(p), first_ones((p, more)), common_end(p, more), settles(more), how_often(p, more)]

        self.assertEqual(made(), made())
        self.assertEqual((p.text, more.text), ("cut 2; rename a=b", "drop c; rename b=a"))


if __name__ == "__main__":
    unittest.main()
