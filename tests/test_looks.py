import itertools
import unittest
from random import Random

from deepcuts.errors import Unfit
from deepcuts.tells import looks_needed, next_look, rooms_told
from tests.pipes import high
from tests.things import listed, scrambled

MANY = 10 ** 40
# Greater than all numbers in the LOOKs that are drawn: this room stands for all greater ones, and for None.
TOP = 8


def all_rooms(left, looks, names):
    """All rows of rooms of these names, to TOP, for which all LOOKs are right."""
    found = []
    for own in range(TOP + 1):
        kinds = []
        for name in names:
            rooms = [own] if name in left else [room for room in range(TOP + 1) if room == 0 or room >= max(own, 1)]
            kinds.append([room for room in rooms
                          if all((room >= many) == stays for at, many, stays in looks if at == name)])
        found += itertools.product(*kinds)
    return found


def names_of(left, looks):
    return sorted(set(left) | {look[0] for look in looks})


def drawn_looks(random, letters, most):
    return tuple([(random.choice(letters), random.randint(0, most), random.random() < 0.5)
                  for _ in range(random.randint(0, most))])


def part(rooms, many):
    """How many of the rooms are many or more, and how many are less."""
    return len([room for room in rooms if room >= many]), len([room for room in rooms if room < many])


def plain_next(rooms):
    """The least number that parts the rooms as evenly as can be, by trying all."""
    if len(rooms) <= 1:
        return None
    return min(range(max(rooms) + 2), key=lambda many: (max(part(rooms, many)), many))


def plain_needed(rooms):
    """How many LOOKs it takes in the worst case, by taking one after another."""
    many = plain_next(rooms)
    if many is None:
        return 0
    return 1 + max(plain_needed([room for room in rooms if room >= many]),
                   plain_needed([room for room in rooms if room < many]))


class Rooms(unittest.TestCase):
    def test_all_rooms_gone_through(self):
        random = Random(121)
        seen = [0, 0]
        for _ in range(1500):
            left = tuple(sorted(random.sample("abc", random.randint(1, 2))))
            looks = drawn_looks(random, "abcd", 5)
            names = names_of(left, looks)
            rows = all_rooms(left, looks, names)
            seen[len(rows) > 0] += 1
            if not rows:
                self.refused(left, looks, names[0])
                continue
            wanted = []
            for at, name in enumerate(names):
                rooms = [row[at] for row in rows]
                wanted.append((name, min(rooms), None if max(rooms) == TOP else max(rooms)))
            self.assertEqual(rooms_told(left, looks), tuple(wanted), (left, looks))
            self.next_ones(left, looks, names, rows)
        self.assertGreater(min(seen), 200)

    def next_ones(self, left, looks, names, rows):
        for at, name in enumerate(names):
            for most in (0, 1, 3, 6, 7):
                rooms = sorted({row[at] for row in rows if row[at] <= most})
                self.assertEqual(next_look(left, looks, name, most), plain_next(rooms), (left, looks, name, most))
                self.assertEqual(looks_needed(left, looks, name, most), plain_needed(rooms), (left, looks, name, most))

    def refused(self, left, looks, name):
        for told in (lambda: rooms_told(left, looks), lambda: next_look(left, looks, name, 5),
                     lambda: looks_needed(left, looks, name, 5), lambda: next_look(left, looks, "zz", 0)):
            with self.assertRaises(Unfit) as caught:
                told()
            self.assertEqual(vars(caught.exception), {})

    def test_names_of_which_nothing_is_told(self):
        random = Random(122)
        for _ in range(400):
            left, looks = ("a",), drawn_looks(random, "ab", 4)
            rows = all_rooms(left, looks, ["a", "b", "y"])
            if rows:
                self.next_ones(left, looks, ["a", "b", "y"], rows)

    def test_a_look_parts_the_rooms_as_told(self):
        """Behind a LOOK the rooms of the NAME are just those of one part."""
        random = Random(123)
        for _ in range(400):
            left, looks = ("a",), drawn_looks(random, "abc", 3)
            for name in "abc":
                rows = all_rooms(left, looks, ["a", "b", "c"])
                many = next_look(left, looks, name, 6) if rows else None
                if many is not None:
                    rooms = {row["abc".index(name)] for row in rows if row["abc".index(name)] <= 6}
                    for stays in (True, False):
                        more = all_rooms(left, looks + ((name, many, stays),), ["a", "b", "c"])
                        found = {row["abc".index(name)] for row in more if row["abc".index(name)] <= 6}
                        self.assertEqual(found, {room for room in rooms if (room >= many) == stays})
                    self.assertLess(looks_needed(left, looks + ((name, many, True),), name, 6),
                                    looks_needed(left, looks, name, 6))

    def test_no_looks(self):
        self.assertEqual(rooms_told(("a",), ()), (("a", 0, None),))
        self.assertEqual(rooms_told(("a", "b"), ()), (("a", 0, None), ("b", 0, None)))
        self.assertEqual((next_look(("a",), (), "a", 0), looks_needed(("a",), (), "a", 0)), (None, 0))
        self.assertEqual((next_look(("a",), (), "b", 1), looks_needed(("a",), (), "b", 1)), (1, 1))
        self.assertEqual((next_look(("a",), (), "b", 10), looks_needed(("a",), (), "b", 10)), (5, 4))

    def test_edges(self):
        rows = [(("r",), (("r", 3, True), ("r", 3, True)), (("r", 3, None),)), (("r",), (("r", 0, True),), (("r", 0, None),)),
                (("r",), (("r", 1, False),), (("r", 0, 0),)), (("r",), (("b", 1, False),), (("b", 0, 0), ("r", 0, None))),
                (("r",), (("b", 1, True),), (("b", 1, None), ("r", 0, None))),
                (("r",), (("b", 1, True), ("b", 2, False)), (("b", 1, 1), ("r", 0, 1))),
                (("r",), (("b", 5, False), ("r", 7, True)), (("b", 0, 0), ("r", 7, None))),
                (("r", "s"), (("r", 2, True), ("s", 4, False)), (("r", 2, 3), ("s", 2, 3))),
                (("r",), (("r", MANY, True), ("b", 1, True)), (("b", MANY, None), ("r", MANY, None))),
                (("r",), (("b", MANY, False),), (("b", 0, MANY - 1), ("r", 0, None)))]
        for left, looks, told in rows:
            self.assertEqual(rooms_told(left, looks), told, looks)
            self.assertEqual(rooms_told(left, looks[::-1]), told, looks)
            self.assertIsInstance(rooms_told(left, looks), tuple)

    def test_looks_against_one_another(self):
        rows = [(("r",), (("r", 2, True), ("r", 2, False))), (("r",), (("r", 0, False),)), (("r",), (("b", 0, False),)),
                (("r",), (("b", 3, True), ("b", 3, False))), (("r", "s"), (("r", 3, True), ("s", 3, False))),
                (("r",), (("r", 4, True), ("b", 1, True), ("b", 3, False))),
                (("r",), (("r", MANY, True), ("r", MANY, False))), (("r",), (("b", 4, True), ("b", 2, False), ("r", 9, False)))]
        for left, looks in rows:
            self.refused(left, looks, "r")
            self.refused(left, looks[::-1], "b")

    def test_great_numbers(self):
        looks = (("b", 3, True), ("b", 3 + 2 ** 100, False), ("x", MANY, True))
        self.assertEqual(rooms_told(("r",), looks), (("b", 3, 2 + 2 ** 100), ("r", 0, 2 + 2 ** 100), ("x", MANY, None)))
        self.assertEqual(next_look(("r",), looks, "b", MANY), 3 + 2 ** 99)
        self.assertEqual(looks_needed(("r",), looks, "b", MANY), 100)
        self.assertEqual(looks_needed(("r",), looks, "x", MANY), 0)
        self.assertIsNone(next_look(("r",), looks, "x", MANY))
        self.assertEqual(next_look(("r",), looks, "x", MANY + 1), MANY + 1)
        self.assertEqual(looks_needed(("r",), (), "y", MANY), 133)
        self.assertEqual(next_look(("r",), (("r", MANY, True),), "y", MANY), 1)
        thirty = tuple([("b", at, True) for at in range(15)] + [("b", MANY - at, False) for at in range(15)])
        self.assertEqual(rooms_told(("r",), thirty), (("b", 14, MANY - 15), ("r", 0, MANY - 15)))
        self.assertEqual(high(None), 10 ** 60)

    def test_rooms_with_a_gap(self):
        looks = (("r", 5, True), ("x", 9, False))
        self.assertEqual(rooms_told(("r",), looks), (("r", 5, None), ("x", 0, 8)))
        # 0, 5, 6, 7 and 8.
        self.assertEqual((next_look(("r",), looks, "x", 20), looks_needed(("r",), looks, "x", 20)), (6, 3))
        self.assertEqual((next_look(("r",), looks, "x", 5), looks_needed(("r",), looks, "x", 5)), (1, 1))
        self.assertEqual((next_look(("r",), looks, "x", 4), looks_needed(("r",), looks, "x", 4)), (None, 0))
        self.assertEqual((next_look(("r",), looks, "r", 4), looks_needed(("r",), looks, "r", 4)), (None, 0))


class Handed(unittest.TestCase):
    def test_lists_for_tuples_and_arguments_by_the_names_shown(self):
        left, looks = ["r"], [["b", 3, True], ["b", 6, False], ["x", 2, False]]
        before = listed(left), listed(looks)
        found = rooms_told(looks=looks, left=left)
        self.assertEqual(found, (("b", 3, 5), ("r", 0, 5), ("x", 0, 1)))
        self.assertEqual(next_look(most=100, name="b", looks=looks, left=left), 4)
        self.assertEqual(looks_needed(most=100, name="b", looks=looks, left=left), 2)
        self.assertEqual((left, looks), before)
        scrambled(looks)
        scrambled(left)
        self.assertEqual(found, (("b", 3, 5), ("r", 0, 5), ("x", 0, 1)))


if __name__ == "__main__":
    unittest.main()
