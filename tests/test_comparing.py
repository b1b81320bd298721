"""[14], what it says of comparing: distances of fields, texts with signs struck."""

import itertools
import unittest

from helpers import chance, check_ways, has_list, keeps, odd_values, same
from whoiswho.best import Likes
from whoiswho.comparing import field_distance, shorter_texts, struck_distance
from whoiswho.edits import edit_distance
from whoiswho.errors import InvalidComparer, InvalidSize, InvalidValue
from whoiswho.grams import gram_distance

TEXTS = ["", "a", "b", "ab", "ba", "aab", "it's", "~ ~"]
WHOLES = [0, 1, -1, 7, -10 ** 20]
LISTS = [(), ("",), ("a",), ("a", "b"), ("a", "b", "c"), ("b", "c"), ("x",)]
TAKEN = {"exact": TEXTS + WHOLES + LISTS, "edits": TEXTS, "grams": TEXTS, "apart": WHOLES, "lists": LISTS, "shared": LISTS}
WRONG = [True, False, "\n", "a\x7f", ("b", "a"), ("a", "a"), ("a", 1), (None,), Likes(1, (), ()), (("a",),), ["a", "a"]]


def plain_distance(comparer, one, other):
    if one is None or other is None:
        return None
    if comparer == "exact":
        return 0 if type(one) is type(other) and one == other else 1
    if comparer == "edits":
        return edit_distance(one, other)
    if comparer == "grams":
        return gram_distance(one, other)
    if comparer == "apart":
        return max(one, other) - min(one, other)
    if comparer == "lists":
        return len(set(one) ^ set(other))
    return 0 if set(one) & set(other) else 1


def struck_texts(text, most):
    return sorted({"".join(sign for at, sign in enumerate(text) if at not in places)
                   for many in range(min(most, len(text)) + 1) for places in itertools.combinations(range(len(text)), many)})


class DistanceTest(unittest.TestCase):
    def test_distances(self):
        for comparer, values in TAKEN.items():
            for one in values + [None]:
                for other in values + [None]:
                    told = field_distance(comparer, one, other)
                    self.assertTrue(same(told, plain_distance(comparer, one, other)), (comparer, one, other))
                    self.assertEqual(told, field_distance(comparer, other, one))
        self.assertEqual(field_distance("exact", ["a"], ("a",)), 0)
        self.assertEqual(field_distance("exact", [], ""), 1)
        self.assertEqual(field_distance("exact", "1", 1), 1)
        self.assertEqual(field_distance("lists", ["a", "b"], ("b", "c")), 2)
        self.assertEqual(field_distance("shared", [], []), 1)

    def test_by_way_of_a_third(self):
        for comparer, values in TAKEN.items():
            if comparer != "shared":
                for one, middle, other in itertools.product(values, repeat=3):
                    self.assertLessEqual(field_distance(comparer, one, other), field_distance(comparer, one, middle)
                                         + field_distance(comparer, middle, other))
        self.assertEqual([field_distance("shared", one, other) for one, other in
                          ((("a",), ("b",)), (("a",), ("a", "b")), (("a", "b"), ("b",)))], [1, 0, 0])

    def test_wrong_values(self):
        for comparer, values in TAKEN.items():
            others = [value for value in TEXTS + WHOLES + LISTS if value not in values] + WRONG
            for value in others:
                keeps(self, InvalidValue, 0, field_distance, comparer, value, value)
                keeps(self, InvalidValue, 1, field_distance, comparer, values[0], value)
                keeps(self, InvalidValue, 1, field_distance, comparer, None, value)
                keeps(self, InvalidValue, 0, field_distance, comparer, value, None)
        for comparer in (None, "", "Exact", "list", 3, True, ("exact",), ["exact"], Likes(1, (), ())):
            with self.assertRaises(InvalidComparer) as raised:
                field_distance(comparer, True, True)
            self.assertEqual(vars(raised.exception), {})
        for value in odd_values():
            check_ways(self, field_distance, (value, "a", "b"))
            for comparer, values in TAKEN.items():
                check_ways(self, field_distance, (comparer, value, values[0]), lists=(1, 2))
                check_ways(self, field_distance, (comparer, values[0], value), lists=(1, 2))


class StruckTest(unittest.TestCase):
    def test_shorter_texts(self):
        self.assertEqual(shorter_texts("aba", 1), ("aa", "ab", "aba", "ba"))
        self.assertEqual((shorter_texts("", 3), shorter_texts("a", 0), shorter_texts("a", 9)), (("",), ("a",), ("", "a")))
        choice = chance(14)
        for _ in range(60):
            text = "".join(choice.choice("ab c") for _ in range(choice.randint(0, 8)))
            for most in range(5):
                self.assertTrue(same(shorter_texts(text, most), tuple(struck_texts(text, most))))
        self.assertEqual(len(shorter_texts("abcdefghijkl", 4)), 1 + 12 + 66 + 220 + 495)
        self.assertFalse(has_list(shorter_texts("ab", 1)))

    def test_struck_distance(self):
        choice = chance(141)
        for _ in range(300):
            one, other = ("".join(choice.choice("abc") for _ in range(choice.randint(0, 7))) for _ in range(2))
            least = min(most for most in range(8) if set(struck_texts(one, most)) & set(struck_texts(other, most)))
            self.assertTrue(same(struck_distance(one, other), least))
            self.assertLessEqual(least, edit_distance(one, other))
            self.assertLessEqual(edit_distance(one, other), 2 * least)
        self.assertEqual((struck_distance("", ""), struck_distance("abc", ""), struck_distance("ab", "ba")), (0, 3, 1))

    def test_errors(self):
        for value in (None, 3, True, ("a",), "\n", "a\x7f"):
            keeps(self, InvalidValue, 0, shorter_texts, value, None)
            keeps(self, InvalidValue, 0, struck_distance, value, value)
            keeps(self, InvalidValue, 1, struck_distance, "", value)
        for most in (-1, True, None, "1", (1,)):
            keeps(self, InvalidSize, "most", shorter_texts, "a", most)
        for value in odd_values():
            check_ways(self, shorter_texts, (value, 1))
            check_ways(self, shorter_texts, ("ab", value))
            check_ways(self, struck_distance, (value, "a"))
            check_ways(self, struck_distance, ("a", value))


if __name__ == "__main__":
    unittest.main()
