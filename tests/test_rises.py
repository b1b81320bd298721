"""[12]: columns by rises and falls, distances to beginnings and to stretches."""

import itertools
import unittest

from helpers import chance, check_ways, keeps, odd_values, same
from whoiswho.edits import edit_distance, edit_table
from whoiswho.errors import InvalidValue
from whoiswho.rises import begin_distances, found_distances, rise_columns

ALL = [rise_columns, begin_distances, found_distances]


def plain_columns(one, other):
    table = edit_table(one, other)
    return tuple(tuple(sum(2 ** i for i in range(len(one)) if table[i + 1][j] - table[i][j] == step) for step in (1, -1))
                 for j in range(len(other) + 1))


class RisesTest(unittest.TestCase):
    def check(self, one, other):
        self.assertTrue(same(rise_columns(one, other), plain_columns(one, other)))
        self.assertTrue(same(begin_distances(one, other),
                             tuple(edit_distance(one, other[:j]) for j in range(len(other) + 1))))
        self.assertTrue(same(found_distances(one, other),
                             tuple(min(edit_distance(one, other[i:j]) for i in range(j + 1))
                                   for j in range(len(other) + 1))))

    def test_by_hand(self):
        self.assertEqual(rise_columns("ab", "b"), ((3, 0), (0, 0)))
        self.assertEqual(rise_columns("ab", "ab")[1:], ((2, 1), (0, 3)))
        self.assertEqual(begin_distances("ab", "b"), (2, 1))
        self.assertEqual(found_distances("ab", "xaby"), (2, 2, 1, 0, 1))
        self.assertEqual((rise_columns("", ""), begin_distances("", ""), found_distances("", "")), (((0, 0),), (0,), (0,)))
        self.assertEqual(rise_columns("", "ab"), ((0, 0), (0, 0), (0, 0)))
        self.assertEqual(begin_distances("", "ab"), (0, 1, 2))
        self.assertEqual(found_distances("", "ab"), (0, 0, 0))
        self.assertEqual(rise_columns("abc", ""), ((7, 0),))
        self.assertEqual(found_distances("abc", ""), (3,))

    def test_all_short_texts(self):
        texts = ["".join(signs) for many in range(4) for signs in itertools.product("ab", repeat=many)]
        for one in texts:
            for other in texts:
                self.check(one, other)

    def test_longer_texts(self):
        choice = chance(12)
        for _ in range(40):
            one, other = ("".join(choice.choice("abc ") for _ in range(choice.randint(0, 12))) for _ in range(2))
            self.check(one, other)
        one, other = ("".join(choice.choice("abcd") for _ in range(60)) for _ in range(2))
        self.assertEqual(rise_columns(one, other), plain_columns(one, other))
        self.assertEqual(begin_distances(one, other), edit_table(one, other)[60])
        self.assertEqual(rise_columns("a" * 60, ""), ((2 ** 60 - 1, 0),))
        self.assertEqual(rise_columns("a" * 60, "a" * 60)[60], (0, 2 ** 60 - 1))

    def test_wrong_texts(self):
        for value in (None, 3, True, ("a",), ["a"], "\n", "a\x7f", "\u00e9"):
            for function in ALL:
                keeps(self, InvalidValue, 0, function, value, value)
                keeps(self, InvalidValue, 1, function, "a", value)

    def test_ways(self):
        for function in ALL:
            for value in odd_values():
                check_ways(self, function, (value, "ab"))
                check_ways(self, function, ("ab", value))
            check_ways(self, function, ("anna", "hanna"))


if __name__ == "__main__":
    unittest.main()
