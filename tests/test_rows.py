import itertools
import unittest
from random import Random

from deepcuts.errors import Renaming
from deepcuts.forests import Forest
from deepcuts.labels import Labels
from deepcuts.pipelines import Pipeline
from deepcuts.rows import (all_alike, always, first_only, in_row, least_order, most_order, outcomes, renames, sometimes,
                           unlike_pair)
from deepcuts.steps import Step
from tests.pipes import drawn_forest, drawn_pipeline, is_within, labels_told, many_steps, places_in, run
from tests.things import listed, path_of, scrambled

MANY = 10 ** 40
LIMIT, SPANS, SCRIPTS = Pipeline.of("cut 2"), Pipeline.of("unwrap span"), Pipeline.of("drop script")
NOTHING = Pipeline.of("drop *")
UNNAMED = (outcomes, all_alike, unlike_pair, most_order, least_order)


def joined(filters, order):
    """The Pipeline of all steps of the filters in this order."""
    return Pipeline([step for number in order for step in filters[number].steps])


def orders(filters):
    return list(itertools.permutations(range(len(filters))))


def drawn_filters(random, most=4, letters="abc"):
    """Filters that change no name; some that rename what never comes out, or rename back."""
    filters = []
    while len(filters) < 1 or random.random() < 1 - 1 / most and len(filters) < most:
        one = drawn_pipeline(random, list(letters), 3, 4)
        if all(one.final(label) in (None, label) for label in labels_told(one)):
            filters.append(one)
    return tuple(filters)


def plain_outcomes(filters):
    """The pairs (order, text), by going through all orders."""
    found = []
    for order in orders(filters):
        made = joined(filters, order)
        if not any(made == joined(filters, other) for other, _ in found):
            found.append((order, made.plain.text))
    return found


class InRow(unittest.TestCase):
    def test_all_steps_one_after_another(self):
        random = Random(131)
        for _ in range(600):
            filters = tuple([drawn_pipeline(random, list("abc"), 4) for _ in range(random.randint(1, 4))])
            order = tuple(random.randrange(len(filters)) for _ in range(random.randint(0, 6)))
            made = joined(filters, order)
            found = in_row(filters, order)
            self.assertEqual(found, made)
            self.assertEqual(found.text, made.plain.text)
            forest = drawn_forest(random, 12, list("abcd"))
            self.assertEqual(found(forest), made(forest))

    def test_edges(self):
        self.assertEqual(in_row((LIMIT,), ()).text, "-")
        self.assertEqual(in_row((NOTHING,), ()).text, "-")
        self.assertEqual(in_row((LIMIT,), (0,)).text, "cut 2")
        turn = Pipeline.of("rename a=b b=a")
        self.assertEqual([in_row((turn, LIMIT), (0,) * many).text for many in (1, 2, 39, 40)],
                         ["rename a=b b=a", "-", "rename a=b b=a", "-"])
        self.assertEqual(in_row((Pipeline.of("rename a=b"), Pipeline.of("drop b")), (0, 1)).text, "drop a b")
        self.assertEqual(in_row((Pipeline.of("rename a=b"), Pipeline.of("drop b")), (1, 0)).text, "drop b; rename a=b")

    def test_forty_numbers_of_six_great_filters(self):
        filters = [many_steps(seed)[1] for seed in range(6)]
        order = [at * 5 % 6 for at in range(40)]
        self.assertEqual(in_row(filters, order).form, joined(filters, order[:12] + order[12:]).form)

    def test_first_only(self):
        rows = [((), ()), ((0,), (0,)), ((1, 0, 1, 1), (1, 0)), ((2, 2, 0, 1, 0), (2, 0, 1)), ((5, 4, 3, 2, 1, 0), (5, 4, 3, 2, 1, 0)),
                ((0,) * 40, (0,))]
        for order, told in rows:
            self.assertEqual(first_only(order), told)
            self.assertEqual(first_only(list(order)), told)
            self.assertIsInstance(first_only(list(order)), tuple)

    def test_without_renames_only_the_first_comings_count(self):
        random = Random(132)
        for _ in range(400):
            filters = drawn_filters(random)
            order = tuple(random.randrange(len(filters)) for _ in range(random.randint(0, 9)))
            self.assertEqual(in_row(filters, order), in_row(filters, first_only(order)))


class Orders(unittest.TestCase):
    def test_all_orders_gone_through(self):
        random = Random(133)
        seen = {name: set() for name in ("outcomes", "most", "least", "pair")}
        for _ in range(500):
            filters = drawn_filters(random)
            wanted = plain_outcomes(filters)
            found = outcomes(filters)
            self.assertEqual(found, wanted, [one.text for one in filters])
            self.assertIsInstance(found, list)
            self.assertIs(all_alike(filters), len(wanted) == 1)
            made = {order: joined(filters, order) for order in orders(filters)}
            most = [one for one in made if all(is_within(made[other], made[one]) for other in made)]
            least = [one for one in made if all(is_within(made[one], made[other]) for other in made)]
            self.assertEqual(most_order(filters), min(most, default=None), [one.text for one in filters])
            self.assertEqual(least_order(filters), min(least, default=None), [one.text for one in filters])
            pairs = [(i, j) for i, j in itertools.combinations(range(len(filters)), 2)
                     if joined(filters, (i, j)) != joined(filters, (j, i))]
            self.assertEqual(unlike_pair(filters), min(pairs, default=None))
            if not pairs:
                self.assertIs(all_alike(filters), True)
            seen["outcomes"].add(len(wanted))
            seen["most"].add(bool(most))
            seen["least"].add(bool(least))
            seen["pair"].add(min(pairs, default=None) if len(wanted) > 1 else bool(pairs))
        self.assertGreaterEqual(len(seen["outcomes"]), 5)
        self.assertEqual((seen["most"], seen["least"]), ({True, False}, {True, False}))
        self.assertLessEqual({True, False, (0, 1), (0, 2), (1, 2), (2, 3)}, seen["pair"])

    def test_one_filter(self):
        for one in (LIMIT, NOTHING, Pipeline()):
            self.assertEqual(outcomes((one,)), [((0,), one.text)])
            self.assertIs(all_alike((one,)), True)
            self.assertIsNone(unlike_pair((one,)))
            self.assertEqual((most_order((one,)), least_order((one,))), ((0,), (0,)))

    def test_there_can_be_a_pair_although_all_orders_are_alike(self):
        filters = (LIMIT, SPANS, NOTHING)
        self.assertIs(all_alike(filters), True)
        self.assertEqual(unlike_pair(filters), (0, 1))
        self.assertEqual(outcomes(filters), [((0, 1, 2), "drop *")])
        self.assertEqual((most_order(filters), least_order(filters)), ((0, 1, 2), (0, 1, 2)))

    def test_edges(self):
        rows = [(("cut 2", "unwrap a", "cut 3"), [((0, 1, 2), "cut 2; unwrap a"), ((1, 0, 2), "unwrap a; cut 2"),
                                                  ((2, 1, 0), "cut 3; unwrap a; cut 2")]),
                (("drop a", "unwrap a"), [((0, 1), "drop a"), ((1, 0), "unwrap a")]),
                (("drop a", "drop b", "drop a"), [((0, 1, 2), "drop a b")]),
                (("cut 1", "drop a", "unwrap a"), [((0, 1, 2), "drop a; cut 1"), ((2, 0, 1), "unwrap a; cut 1")]),
                ((f"cut {MANY}", "unwrap a"), [((0, 1), f"cut {MANY}; unwrap a"), ((1, 0), f"unwrap a; cut {MANY}")])]
        for texts, told in rows:
            self.assertEqual(outcomes([Pipeline.of(text) for text in texts]), told, texts)
        crossed = (Pipeline.of("cut 2; unwrap a"), Pipeline.of("cut 3; unwrap b"), Pipeline.of("unwrap a; cut 4"))
        self.assertEqual(outcomes(crossed), plain_outcomes(crossed))
        neither = (Pipeline.of("unwrap a; cut 2"), Pipeline.of("unwrap b; cut 3"))
        self.assertEqual((most_order(neither), least_order(neither)), (None, None))

    def test_six_great_filters(self):
        filters = []
        for at in range(6):
            names = [first + second + "fghijk"[at] for first in "abcde" for second in "abcdefgh"]
            parts = [Step("cut", 500 - at)] + [Step("unwrap", Labels(names[one:one + 2])) for one in range(0, 40, 2)]
            filters.append(Pipeline(parts))
        found = outcomes(filters)
        forms = {joined(filters, order).form for order, _ in found}
        self.assertEqual(len(forms), len(found))
        self.assertLessEqual({joined(filters, order).form for order in orders(filters)[::7]}, forms)
        for order, text in found[::20]:
            self.assertEqual(joined(filters, order).plain.text, text)
        self.assertEqual(unlike_pair(filters), (0, 1))


class Forests(unittest.TestCase):
    def test_all_orders_gone_through(self):
        random = Random(134)
        seen = 0
        for _ in range(400):
            filters, forest = drawn_filters(random), drawn_forest(random, 14, list("abcd"))
            kept = [set(places_in(run(joined(filters, order), forest.trees))) for order in orders(filters)]
            self.assertEqual(always(filters, forest), tuple(sorted(set.intersection(*kept))))
            self.assertEqual(sometimes(filters, forest), tuple(sorted(set.union(*kept))))
            seen += always(filters, forest) != sometimes(filters, forest)
        self.assertGreater(seen, 30)

    def test_edges(self):
        page = Forest.of("p(span(b) script(b))")
        for told in (always, sometimes):
            self.assertEqual(told((LIMIT, SPANS), Forest()), ())
            self.assertEqual(told((NOTHING, SPANS), page), ())
            self.assertEqual(told((Pipeline(),), page), (0, 1, 2, 3, 4))
            self.assertEqual(told((LIMIT,), page), LIMIT.places(page))

    def test_what_stays_sometimes_need_not_stay_at_once(self):
        filters = (Pipeline.of("unwrap a; cut 2"), Pipeline.of("unwrap b; cut 2"))
        forest = Forest.of("x(a(y)) x(b(y))")
        self.assertEqual((always(filters, forest), sometimes(filters, forest)), ((0, 3), (0, 2, 3, 5)))

    def test_three_hundred_nodes(self):
        filters = [Pipeline([Step("cut", 60 - 5 * at), Step("unwrap", Labels(["abcdef"[at]]))]) for at in range(6)]
        forest = Forest(path_of(tuple("abcdefz" * 9)[:60]) * 5)
        both = always(filters, forest), sometimes(filters, forest)
        kept = [set(joined(filters, order).places(forest)) for order in orders(filters)[::11]]
        self.assertLessEqual(set(both[0]), set.intersection(*kept))
        self.assertGreaterEqual(set(both[1]), set.union(*kept))
        self.assertEqual(both[0], tuple(sorted(set.intersection(*[set(in_row(filters, order).places(forest))
                                                                  for order, _ in outcomes(filters)]))))


class Renames(unittest.TestCase):
    def told_by(self, filters):
        told = [lambda one=one: one(filters) for one in UNNAMED]
        return told + [lambda: always(filters, Forest.of("a")), lambda: sometimes(filters, Forest())]

    def test_the_first_filter_that_changes_a_name(self):
        turn, swap = Pipeline.of("rename a=b"), Pipeline.of("drop c; rename a=b b=a")
        rows = [((turn,), 0), ((turn, LIMIT, swap), 0), ((LIMIT, turn), 1), ((LIMIT, SPANS, swap, turn), 2),
                ((NOTHING, SPANS, LIMIT, SCRIPTS, NOTHING, turn), 5)]
        for filters, place in rows:
            for told in self.told_by(filters) + self.told_by(list(filters)):
                with self.assertRaises(Renaming) as caught:
                    told()
                self.assertEqual(vars(caught.exception), {"place": place})

    def test_renames_that_change_no_name_in_the_end(self):
        texts = ["rename a=b; drop b", "drop a; rename a=b", "rename -", "rename a=b b=a; rename a=b b=a",
                 "rename a=b; drop *", "unwrap a; rename a=zz"]
        for text in texts:
            one = Pipeline.of(text)
            self.assertIs(renames(one), False, text)
            for told in self.told_by((one, LIMIT)):
                told()
            self.assertEqual(outcomes((one, LIMIT)), plain_outcomes((one, LIMIT)))

    def test_renames(self):
        random = Random(135)
        seen = [0, 0]
        for _ in range(500):
            one = drawn_pipeline(random, list("abc"), 4)
            told = any(one.final(label) not in (None, label) for label in labels_told(one))
            self.assertIs(renames(one), told)
            self.assertIs(renames(p=one), told)
            seen[told] += 1
        self.assertGreater(min(seen), 50)

    def test_in_row_takes_filters_that_rename(self):
        self.assertEqual(in_row((Pipeline.of("rename a=b"),), (0, 0)).text, "rename a=b")


class Handed(unittest.TestCase):
    def test_lists_for_tuples_and_arguments_by_the_names_shown(self):
        filters, order = [LIMIT, SPANS, SCRIPTS], [1, 0, 1, 1]
        page = Forest.of("p(span(b) script(b))")
        before = list(filters), listed(order)
        found = in_row(order=order, filters=filters)
        self.assertEqual(found.text, "unwrap span; cut 2")
        self.assertEqual(first_only(order=order), (1, 0))
        self.assertEqual(outcomes(filters=filters[:2]), [((0, 1), "cut 2; unwrap span"), ((1, 0), "unwrap span; cut 2")])
        self.assertEqual((all_alike(filters=filters), unlike_pair(filters=filters)), (False, (0, 1)))
        self.assertEqual((most_order(filters=filters), least_order(filters=filters)), ((1, 0, 2), (0, 1, 2)))
        self.assertEqual(always(forest=page, filters=filters), (0,))
        self.assertEqual(sometimes(forest=page, filters=filters), (0, 2))
        self.assertEqual((filters, order), before)
        scrambled(filters)
        scrambled(order)
        self.assertEqual(found.text, "unwrap span; cut 2")

    def test_returned_lists_are_new(self):
        found = outcomes((LIMIT, SPANS))
        found.clear()
        self.assertEqual(len(outcomes((LIMIT, SPANS))), 2)


if __name__ == "__main__":
    unittest.main()
