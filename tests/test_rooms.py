import unittest

from deepcuts.labels import is_name
from deepcuts.rooms import at_most, greater, labels_for, lesser, name_at

LETTERS = "abcdefghijklmnopqrstuvwxyz"


class Names(unittest.TestCase):
    def test_names_in_order(self):
        pairs = [first + second for first in LETTERS for second in LETTERS]
        self.assertEqual([name_at(number) for number in range(26 + 676)], list(LETTERS) + pairs)
        self.assertEqual((name_at(702), name_at(703), name_at(26 + 676 + 17576)), ("aaa", "aab", "aaaa"))

    def test_a_label_that_stands_for_all_others(self):
        rows = {(): ["a"], ("b", "a", "b"): ["a", "b", "c"], tuple(LETTERS): list(LETTERS) + ["aa"], ("b",): ["b", "a"]}
        for names, labels in rows.items():
            self.assertEqual(labels_for(names), labels)
            self.assertEqual(labels_for(list(names)), labels)
            self.assertTrue(all(is_name(label) for label in labels))


class Order(unittest.TestCase):
    def test_rooms_without_end_are_the_greatest(self):
        rooms = [0, 1, 2, 10 ** 40, None]
        for at, room in enumerate(rooms):
            for place, other in enumerate(rooms):
                self.assertIs(at_most(room, other), at <= place)
                self.assertEqual(lesser(room, other), rooms[min(at, place)])
                self.assertEqual(greater(room, other), rooms[max(at, place)])


if __name__ == "__main__":
    unittest.main()
