import itertools
import unittest

from deepcuts.errors import BadText
from deepcuts.forests import Forest
from deepcuts.labels import Labels, is_name
from tests.things import things

SUBSETS = [names for many in range(4) for names in itertools.combinations("abc", many)]
ALL = [Labels(names, rest) for names in SUBSETS for rest in (False, True)]
# The NAMEs a, b and c, and others that no Labels here tell.
WORLD = ("a", "b", "c", "ab", "z", "abcdefgh")


def members(labels):
    return {name for name in WORLD if name in labels}


class Names(unittest.TestCase):
    def test_names(self):
        for thing in ("a", "z", "all", "aa", "abcdefgh", "zzzzzzzz", "type"):
            self.assertIs(is_name(thing), True)

    def test_strings_that_are_none(self):
        wrong = ["", "abcdefghi", "A", "aB", "a b", " a", "a ", "a\n", "\n", "a1", "1", "-", "*", "a-b", "a_b", "a=b"]
        for thing in wrong + ["\u00e4", "\u00df", "a\u00e9", "\u0131", "\uff41", "`", "{", "a" * 1000]:
            self.assertIs(is_name(thing), False, thing)

    def test_other_things(self):
        for thing in (0, 1, -5, 10 ** 40, True, False, None, (), [], ("a",), ["a"], ("a", "b"), (("a",),), [["a"]]):
            self.assertIs(is_name(thing), False, thing)

    def test_things_of_all_kinds(self):
        for thing in things():
            wanted = isinstance(thing, str) and thing in ("a", "zz", "abcdefgh")
            self.assertIs(is_name(thing), wanted, thing)

    def test_deeply_nested_things(self):
        thing = "a"
        for _ in range(12):
            thing = (thing,)
            self.assertIs(is_name(thing), False)
            self.assertIs(is_name([thing]), False)


class Told(unittest.TestCase):
    def test_no_names_and_all_names(self):
        self.assertEqual((Labels().names, Labels().rest, Labels().text), ((), False, "-"))
        every = Labels((), True)
        self.assertEqual((every.names, every.rest, every.text), ((), True, "*"))
        self.assertEqual(members(Labels()), set())
        self.assertEqual(members(every), set(WORLD))

    def test_names_are_a_set(self):
        for rest in (False, True):
            for names in itertools.product(("b", "a", "ab"), repeat=3):
                labels = Labels(names, rest)
                self.assertEqual(labels.names, tuple(sorted(set(names))))
                self.assertIs(labels.rest, rest)

    def test_membership(self):
        for labels in ALL:
            for name in WORLD:
                self.assertIs(name in labels, (name in labels.names) != labels.rest)

    def test_other(self):
        for labels in ALL:
            self.assertEqual(members(labels.other), set(WORLD) - members(labels))
            self.assertEqual((labels.other.names, labels.other.rest), (labels.names, not labels.rest))
            self.assertEqual(labels.other.other, labels)

    def test_operators(self):
        for a, b in itertools.product(ALL, repeat=2):
            self.assertEqual(members(a | b), members(a) | members(b))
            self.assertEqual(members(a & b), members(a) & members(b))
            self.assertEqual(members(a - b), members(a) - members(b))
            for made in (a | b, a & b, a - b):
                self.assertIsInstance(made, Labels)
                self.assertEqual(made.names, tuple(sorted(members(made) ^ (set(WORLD) if made.rest else set()))))

    def test_within(self):
        for a, b in itertools.product(ALL, repeat=2):
            self.assertIs(a.within(b), members(a) <= members(b))

    def test_operators_leave_their_sides_as_they_were(self):
        a, b = Labels(("a", "c")), Labels(("a",), True)
        made = a | b, a & b, a - b, a.other, a.within(b), "a" in a
        self.assertEqual((a, b), (Labels(("a", "c")), Labels(("a",), True)))
        self.assertEqual(made, (a | b, a & b, a - b, a.other, a.within(b), "a" in a))

    def test_equality(self):
        for (at, a), (place, b) in itertools.product(enumerate(ALL), repeat=2):
            self.assertIs(a == b, at == place)
            self.assertIs(a != b, at != place)
        self.assertEqual(Labels(("b", "a", "b")), Labels(("a", "b")))

    def test_labels_equal_nothing_else(self):
        for thing in (None, True, 0, "a", "-", (), ("a",), ["a"], {"a"}, Forest(), Forest((("a", ()),)), object()):
            self.assertIs(Labels(("a",)) == thing, False)
            self.assertIs(thing == Labels(("a",)), False)
            self.assertIs(Labels() == thing, False)

    def test_forty_names(self):
        names = [first + second for first in "zyxwv" for second in "hgfedcba"]
        labels = Labels(names, True)
        self.assertEqual(labels.names, tuple(sorted(names)))
        self.assertEqual(Labels.of(labels.text), labels)
        self.assertEqual(labels - Labels(names[1:], True), Labels())
        self.assertEqual(Labels(names[1:], True) - labels, Labels(names[:1]))

    def test_no_iteration(self):
        for labels in ALL:
            for go in (iter, list, tuple, sorted, set):
                with self.assertRaises(TypeError):
                    go(labels)
            with self.assertRaises(TypeError):
                for _ in labels:
                    pass

    def test_no_setters(self):
        labels = Labels(("a",))
        for name in ("names", "rest", "text", "other"):
            with self.assertRaises(AttributeError):
                setattr(labels, name, getattr(Labels(("b",)), name))
        self.assertEqual(labels, Labels(("a",)))

    def test_lists_for_tuples(self):
        handed = ["b", "a", "b"]
        labels = Labels(handed)
        self.assertEqual(handed, ["b", "a", "b"])
        handed.append("c")
        handed[0] = "d"
        self.assertEqual((labels.names, labels.text), (("a", "b"), "a b"))


class Texts(unittest.TestCase):
    def test_texts(self):
        told = {"-": Labels(), "*": Labels((), True), "a": Labels(("a",)), "a ab b": Labels(("b", "ab", "a"))}
        told.update({"* - a": Labels(("a",), True), "* - a b": Labels(("b", "a"), True)})
        for text, labels in told.items():
            self.assertEqual(labels.text, text)
            self.assertEqual(Labels.of(text), labels)

    def test_back_and_forth(self):
        for labels in ALL:
            self.assertEqual(Labels.of(labels.text), labels)
            self.assertEqual(Labels.of(labels.text).text, labels.text)

    def test_texts_that_are_none(self):
        wrong = ["", " ", "b a", "a a", "a  b", " a", "a ", "- a", "a -", "--", "- -", "A", "a,b", "a\nb", "a\n", "\n"]
        wrong += ["**", "* *", "* ", " *", "*-", "* -", "* - ", "*- a", "* -a", "*-a", "* - -", "* - *", "* - b a"]
        wrong += ["* - a a", "* - a  b", "*  - a", "* -  a", "* - a ", " * - a", "* a", "- *", "- a", "+ a", "* + a"]
        wrong += ["* - * - a", "a * - b", "* - a * - b", "abcdefghi", "a abcdefghi", "1", "\u00e4", "a\tb", "a=b", "(a)"]
        for text in wrong:
            with self.subTest(text=text), self.assertRaises(BadText):
                Labels.of(text)

    def test_all_short_texts(self):
        known = {labels.text for labels in ALL}
        for many in range(6):
            for letters in itertools.product("ab* -", repeat=many):
                text = "".join(letters)
                try:
                    self.assertEqual(Labels.of(text).text, text)
                except BadText:
                    self.assertNotIn(text, known)


class ByName(unittest.TestCase):
    def test_arguments_by_the_names_shown(self):
        self.assertIs(is_name(thing="a"), True)
        self.assertEqual(Labels(names=("a",), rest=True), Labels(("a",), True))
        self.assertEqual(Labels(rest=True), Labels((), True))
        self.assertEqual(Labels(names=["a"]), Labels(("a",)))
        self.assertEqual(Labels.of(text="* - a"), Labels(("a",), True))
        self.assertIs(Labels(("a",)).within(b=Labels(("a", "b"))), True)
        self.assertEqual(Labels().of("a"), Labels(("a",)))


if __name__ == "__main__":
    unittest.main()
