import itertools
import unittest

from deepcuts.errors import BadText, NoPlace
from deepcuts.forests import Forest, chain, is_trees
from deepcuts.labels import Labels
from tests.things import all_trees, listed, named, path_of, row_of, scrambled, shapes, things


def paths_of(trees, above=()):
    """The paths of all nodes in the order of their places, read off the trees plainly."""
    found = []
    for name, beneath in trees:
        found.append(above + (name,))
        found.extend(paths_of(beneath, above + (name,)))
    return found


def lines_of(trees, count, above=()):
    """For each node in order the places from the outermost node down to it."""
    found = []
    for _, beneath in trees:
        line = above + (next(count),)
        found.append(line)
        found.extend(lines_of(beneath, count, line))
    return found


def told(trees):
    """The text of trees, plainly."""
    return " ".join([name + (f"({told(beneath)})" if beneath else "") for name, beneath in trees])


def kept(trees, places, count):
    """The trees of just the nodes at these places, plainly."""
    found = ()
    for name, beneath in trees:
        stays = next(count) in places
        lower = kept(beneath, places, count)
        found = found + (((name, lower),) if stays else lower)
    return found


def is_forest(thing):
    """Whether thing is a tuple of TREEs, plainly."""
    return isinstance(thing, tuple) and all([is_tree(tree) for tree in thing])


def is_tree(thing):
    if not isinstance(thing, tuple) or len(thing) != 2:
        return False
    return isinstance(thing[0], str) and thing[0] in ("a", "zz", "abcdefgh") and is_forest(thing[1])


class Things(unittest.TestCase):
    def test_things_of_all_kinds(self):
        seen = 0
        for thing in things():
            self.assertIs(is_trees(thing), is_forest(thing), thing)
            seen += is_forest(thing)
            self.assertIs(is_trees((("a", thing),)), is_forest(thing), thing)
            self.assertIs(is_trees((("a", ()), thing)), is_tree(thing), thing)
        self.assertGreater(seen, 5)

    def test_no_list_for_a_tuple_at_any_depth(self):
        right = (("a", (("b", ()), ("c", (("d", ()),)))), ("e", ()))
        self.assertIs(is_trees(right), True)
        for wrong in ([right[0]], (list(right[0]), right[1]), (("a", [("b", ())]),), (("a", (["b", ()],)),),
                      (("a", (("b", []),)),), (("a", (("b", ((["c", ()]),)),)),), [], [()], ([],)):
            self.assertIs(is_trees(wrong), False, wrong)

    def test_wrong_names_and_sizes(self):
        for wrong in ("", "A", "abcdefghi", "a b", 1, True, None, (), ("a",)):
            self.assertIs(is_trees(((wrong, ()),)), False, wrong)
            self.assertIs(is_trees((("a", ((wrong, ()),)),)), False, wrong)
        for wrong in (("a", ()), (("a",),), (("a", (), ()),), ((),), ("a",), "a", "", None, 0, True, ((("a", ()),),)):
            self.assertIs(is_trees(wrong), False, wrong)

    def test_nested_to_twelve_levels_and_beyond(self):
        thing, odd = (), 0
        for _ in range(6):
            thing, odd = (("a", thing),), (("a", odd),)
            self.assertIs(is_trees(thing), True)
            self.assertIs(is_trees(odd), False)
        self.assertIs(is_trees(path_of("a" * 300)), True)
        self.assertIs(is_trees(row_of("a", 400)), True)
        self.assertIs(is_trees(row_of("a", 400) + (("a", 0),)), False)


class Told(unittest.TestCase):
    def test_no_node(self):
        for forest in (Forest(), Forest(()), Forest([]), Forest.of("-"), chain(())):
            self.assertEqual((forest.trees, forest.text, forest.names, forest.depth, len(forest)), ((), "-", (), 0, 0))
            self.assertEqual(forest, Forest())

    def test_all_small_forests(self):
        for trees in all_trees(4, "ab"):
            forest = Forest(trees)
            paths = paths_of(trees)
            lines = lines_of(trees, itertools.count())
            self.assertEqual(forest.trees, trees)
            self.assertEqual(forest.text, told(trees) or "-")
            self.assertEqual(forest.names, tuple(sorted({path[-1] for path in paths})))
            self.assertEqual(forest.depth, max([len(path) for path in paths], default=0))
            self.assertEqual(len(forest), len(paths))
            for place, (path, line) in enumerate(zip(paths, lines)):
                self.assertEqual(forest[place], path[-1])
                self.assertEqual(forest.path(place), path)
                self.assertEqual(forest.above(place), line[:-1])
                beneath = tuple([at for at, other in enumerate(lines) if place in other[:-1]])
                self.assertEqual(forest.below(place), beneath)

    def test_only(self):
        for many in range(6):
            for shape in shapes(many):
                trees = named(shape, iter("abcde"))
                for size in range(many + 1):
                    for places in itertools.combinations(range(many), size):
                        made = Forest(trees).only(places)
                        self.assertEqual(made.trees, kept(trees, places, itertools.count()))
                        self.assertEqual(made, Forest(made.trees))

    def test_sum_and_under(self):
        few = list(all_trees(2, "ab"))
        for first, second in itertools.product(few, repeat=2):
            made = Forest(first) + Forest(second)
            self.assertEqual(made.trees, first + second)
            self.assertEqual(made, Forest(first + second))
        for trees in few:
            self.assertEqual(Forest(trees).under("r").trees, (("r", trees),))
            self.assertEqual(Forest(trees).under("r"), Forest((("r", trees),)))

    def test_chain(self):
        self.assertEqual(chain(("a",)).text, "a")
        self.assertEqual(chain(("a", "b", "a")).text, "a(b(a))")
        self.assertEqual(chain(["a", "b"]), chain(("a", "b")))

    def test_equality(self):
        few = list(all_trees(3, "ab"))
        for first, second in itertools.product(few, repeat=2):
            self.assertIs(Forest(first) == Forest(second), first == second)
            self.assertIs(Forest(first) != Forest(second), first != second)

    def test_a_forest_equals_nothing_else(self):
        forest = Forest((("a", ()),))
        for thing in (None, True, 0, 1, "a", "-", (), (("a", ()),), [], Labels(), Labels(("a",)), object()):
            self.assertIs(forest == thing, False)
            self.assertIs(thing == forest, False)
            self.assertIs(Forest() == thing, False)

    def test_nothing_changes(self):
        forest, other = Forest.of("a(b c(d)) e"), Forest.of("x(y)")
        made = forest + other, forest.only((0, 3)), forest.under("r"), forest.path(3), forest.above(3), forest.below(0)
        self.assertEqual((forest.text, other.text), ("a(b c(d)) e", "x(y)"))
        again = forest + other, forest.only((0, 3)), forest.under("r"), forest.path(3), forest.above(3), forest.below(0)
        self.assertEqual(made, again)
        for name in ("trees", "text", "names", "depth"):
            with self.assertRaises(AttributeError):
                setattr(forest, name, getattr(other, name))
        self.assertEqual(forest.text, "a(b c(d)) e")

    def test_no_iteration(self):
        for forest in (Forest(), Forest.of("a(b) c")):
            for go in (iter, list, tuple, sorted, set):
                with self.assertRaises(TypeError):
                    go(forest)
            with self.assertRaises(TypeError):
                for _ in forest:
                    pass
            with self.assertRaises(TypeError):
                "a" in forest


class Places(unittest.TestCase):
    def test_just_beyond_either_end(self):
        for text, many in (("-", 0), ("a", 1), ("a(b c(d)) e", 5)):
            forest = Forest.of(text)
            for place in (-1, many, -many - 1, many + 1, 10 ** 40, -10 ** 40):
                for call in (forest.__getitem__, forest.path, forest.above, forest.below):
                    with self.subTest(text=text, place=place, call=call), self.assertRaises(NoPlace) as caught:
                        call(place)
                    self.assertEqual(caught.exception.place, place)
                with self.assertRaises(NoPlace) as caught:
                    forest[place]
                self.assertEqual(vars(caught.exception), {"place": place})

    def test_only_names_the_first_that_is_none(self):
        forest = Forest.of("a(b c(d)) e")
        for places, first in (((5,), 5), ((0, 5, 6), 5), ((-2, -1), -2), ((-1, 0, 9), -1), ((0, 1, 2, 3, 4, 7), 7)):
            for handed in (places, list(places)):
                with self.assertRaises(NoPlace) as caught:
                    forest.only(handed)
                self.assertEqual(caught.exception.place, first)
        with self.assertRaises(NoPlace):
            Forest().only((0,))
        self.assertEqual(forest.text, "a(b c(d)) e")


class Texts(unittest.TestCase):
    def test_texts(self):
        rows = {"a": (("a", ()),), "a b": (("a", ()), ("b", ())), "a(b)": (("a", (("b", ()),)),)}
        rows["abcdefgh(a a) a"] = (("abcdefgh", (("a", ()), ("a", ()))), ("a", ()))
        rows["a(b(c)) d(e)"] = (("a", (("b", (("c", ()),)),)), ("d", (("e", ()),)))
        for text, trees in rows.items():
            self.assertEqual(Forest.of(text).trees, trees)
            self.assertEqual(Forest(trees).text, text)

    def test_back_and_forth(self):
        for trees in all_trees(4, ("a", "bc")):
            self.assertEqual(Forest.of(Forest(trees).text), Forest(trees))

    def test_texts_that_are_none(self):
        wrong = ["", " ", "--", "- ", " -", "- a", "a -", "a(-)", "()", "a()", "a( )", "a (b)", "a( b)", "a(b )", "a(b)c"]
        wrong += ["a(b))", "a((b))", "a(b", "a b)", "a(b c", "a)b(", ")a(", "a) b", "a) b(c", "(a)", "(a b)", "a(b)(c)"]
        wrong += ["a  b", " a", "a ", "a(b)  c", "a(b)c d", "a(b) ", "A", "aB", "a1", "abcdefghi", "a(abcdefghi)", "a,b"]
        wrong += ["a\nb", "a\n", "\na", "a\tb", "a(b\n)", "a[b]", "a{b}", "a=b", "\u00e4", "a(b c(d) e", "a(b c)) d(e", "*"]
        wrong += ["a(b) )", "a ()", "a(b)()", "() a", "a(() b)", "a(b ())", "a() b", "a)(b", "a(b)) c", "a( (b))", "("]
        for text in wrong:
            with self.subTest(text=text), self.assertRaises(BadText):
                Forest.of(text)

    def test_all_short_texts(self):
        known = {Forest(trees).text for trees in all_trees(3, ("a", "aa"))}
        read = set()
        for many in range(8):
            for letters in itertools.product("a() -", repeat=many):
                text = "".join(letters)
                try:
                    forest = Forest.of(text)
                except BadText:
                    self.assertNotIn(text, known)
                else:
                    self.assertEqual(forest.text, text)
                    self.assertIs(is_trees(forest.trees), True)
                    read.add(text)
        self.assertLessEqual({text for text in known if len(text) < 8}, read)


class Bounds(unittest.TestCase):
    def test_three_hundred_nodes_side_by_side(self):
        forest = Forest(row_of("abcdefgh", 300))
        self.assertEqual((len(forest), forest.depth, forest.names), (300, 1, ("abcdefgh",)))
        self.assertEqual(forest.above(299), ())
        self.assertEqual(forest.below(0), ())
        self.assertEqual(forest.only(tuple(range(0, 300, 2))), Forest(row_of("abcdefgh", 150)))
        self.assertEqual(Forest.of(forest.text), forest)

    def test_three_hundred_nodes_and_depth_sixty(self):
        forest = Forest(path_of(["a", "b"] * 30) * 5)
        self.assertEqual((len(forest), forest.depth), (300, 60))
        self.assertEqual(forest.path(299), ("a", "b") * 30)
        self.assertEqual(forest.above(299), tuple(range(240, 299)))
        self.assertEqual(forest.below(60), tuple(range(61, 120)))
        self.assertEqual(forest.only(tuple(range(0, 300, 2))), Forest(path_of("a" * 30) * 5))
        self.assertEqual(Forest.of(forest.text), forest)
        self.assertEqual(Forest.of(forest.text).trees, forest.trees)

    def test_somewhat_beyond_the_bounds(self):
        forest = chain(("a",) * 400)
        self.assertEqual((len(forest), forest.depth, forest[399]), (400, 400, "a"))
        self.assertEqual(Forest.of(forest.text), forest)
        self.assertNotEqual(forest, forest.under("a"))
        self.assertEqual(forest.only(tuple(range(399))).under("a"), forest)


class Lists(unittest.TestCase):
    def test_lists_for_tuples_at_every_depth(self):
        trees = (("a", (("b", ()), ("c", (("d", ()),)))), ("e", ()))
        for handed in (listed(trees), [trees[0], list(trees[1])], (["a", trees[0][1]], trees[1])):
            self.assertEqual(Forest(handed), Forest(trees))
            self.assertEqual(Forest(handed).trees, trees)

    def test_what_is_handed_in_stays_and_may_change_afterwards(self):
        trees = (("a", (("b", ()), ("c", (("d", ()),)))), ("e", ()))
        handed = listed(trees)
        forest = Forest(handed)
        self.assertEqual(handed, listed(trees))
        scrambled(handed)
        self.assertEqual((forest.trees, forest.text, len(forest)), (trees, "a(b c(d)) e", 5))
        names = ["a", "b"]
        path = chain(names)
        self.assertEqual(names, ["a", "b"])
        scrambled(names)
        self.assertEqual(path.text, "a(b)")
        places = [0, 3]
        some = forest.only(places)
        self.assertEqual(places, [0, 3])
        scrambled(places)
        self.assertEqual(some.text, "a(d)")

    def test_results_are_tuples_and_numbers(self):
        forest = Forest(listed((("a", (("b", ()),)),)))
        for value in (forest.trees, forest.names, forest.path(1), forest.above(1), forest.below(0)):
            self.assertIsInstance(value, tuple)
        self.assertIs(is_trees(forest.trees), True)
        self.assertIs(is_trees(forest.only([0]).trees), True)
        self.assertIs(is_trees((forest + forest).trees), True)
        self.assertIs(is_trees(chain(["a", "b"]).trees), True)


class ByName(unittest.TestCase):
    def test_arguments_by_the_names_shown(self):
        forest = Forest.of(text="a(b)")
        self.assertEqual(Forest(trees=(("a", (("b", ()),)),)), forest)
        self.assertEqual(forest.path(place=1), ("a", "b"))
        self.assertEqual(forest.above(place=1), (0,))
        self.assertEqual(forest.below(place=0), (1,))
        self.assertEqual(forest.only(places=(1,)).text, "b")
        self.assertEqual(forest.under(name="r").text, "r(a(b))")
        self.assertEqual(chain(names=("a", "b")), forest)
        self.assertIs(is_trees(thing=()), True)


if __name__ == "__main__":
    unittest.main()
