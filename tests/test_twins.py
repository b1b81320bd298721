"""[14], what it says of twins: exchanges in texts, texts with the same grams."""

import itertools
import unittest

from helpers import chance, changed_values, check_ways, has_list, keeps, odd_values, same
from whoiswho.errors import InvalidIndex, InvalidSize, InvalidValue, Refused
from whoiswho.grams import text_grams
from whoiswho.twins import all_twins, exchange_row, exchanged_text, twin_count, twin_text, twins_hold

SHORT = [twin_text, twin_count, all_twins]


def all_texts(signs, most):
    return ["".join(row) for many in range(most + 1) for row in itertools.product(signs, repeat=many)]


def plain_exchange(text, places):
    """The text behind an exchange, None where it may not be."""
    i, j, k, last = places
    if not (i < j <= k < last and text[i] == text[k] and text[j] == text[last]):
        return None
    first, second = text[i + 1:j], text[k + 1:last]
    return text[:i + 1] + second + text[j:k + 1] + first + text[last:]


def plain_hold(one, other, value):
    if type(value) is not tuple:
        return False
    for places in value:
        if type(places) is not tuple or len(places) != 4 or not all(type(at) is int and 0 <= at < len(one) for at in places):
            return False
        one = plain_exchange(one, places)
        if one is None:
            return False
    return one == other


def by_grams(texts):
    lots = {}
    for text in texts:
        lots.setdefault(text_grams(text), []).append(text)
    return lots


class ExchangeTest(unittest.TestCase):
    def test_by_hand(self):
        self.assertEqual(exchanged_text("xaybxcyd", [0, 2, 4, 6]), "xcybxayd")
        self.assertEqual(exchanged_text("xaxbx", (0, 2, 2, 4)), "xbxax")
        self.assertEqual(exchanged_text("aaa", (0, 1, 1, 2)), "aaa")
        self.assertEqual(exchanged_text("xyaxby", (0, 1, 3, 5)), "xbyaxy")

    def test_all_places(self):
        choice = chance(142)
        for _ in range(60):
            text = "".join(choice.choice("abc") for _ in range(choice.randint(0, 7)))
            for places in itertools.product(range(len(text)), repeat=4):
                behind = plain_exchange(text, places)
                if behind is None:
                    keeps(self, Refused, -1, exchanged_text, text, places)
                else:
                    self.assertTrue(same(exchanged_text(text, places), behind))
                    self.assertEqual(text_grams(behind), text_grams(text))

    def test_errors(self):
        for value in (None, 3, True, ("a",), "\n"):
            keeps(self, InvalidValue, 0, exchanged_text, value, None)
            keeps(self, InvalidValue, 0, exchange_row, value, value)
            keeps(self, InvalidValue, 1, exchange_row, "", value)
            keeps(self, InvalidValue, 0, twins_hold, value, value, None)
            keeps(self, InvalidValue, 1, twins_hold, "", value, None)
            for function in SHORT:
                keeps(self, InvalidValue, 0, function, value)
        for places in [(0, 1, 1), (0, 1, 1, 5), (0, 1, 1, -1), (0, 1, True, 2), None, 3, "0112", (0, 1, 1, 2, 2), ((0,), 1, 1, 2), ()]:
            keeps(self, InvalidIndex, -1, exchanged_text, "aaaaa", places)
        keeps(self, InvalidIndex, -1, exchanged_text, "", (0, 0, 0, 0))
        keeps(self, Refused, -1, exchanged_text, "aaaaa", (0, 0, 1, 2))
        keeps(self, Refused, -1, exchanged_text, "aaaaa", (0, 2, 1, 3))
        for function in SHORT:
            keeps(self, InvalidSize, "text", function, "abcdefghijklm")
            function("abcdefghijkl")
        for value in odd_values():
            check_ways(self, exchanged_text, (value, (0, 1, 1, 2)))
            check_ways(self, exchanged_text, ("aaa", value))
            check_ways(self, exchange_row, (value, "a"))
            check_ways(self, twins_hold, ("ab", "ab", value))
            for function in SHORT:
                check_ways(self, function, (value,))
        check_ways(self, exchanged_text, ("xaxbx", (0, 2, 2, 4)), lists=(1,))

    def test_rows_between_all_texts(self):
        texts = all_texts("ab", 8) + all_texts("abc", 5)
        for lot in by_grams(sorted(set(texts))).values():
            for one in lot:
                for other in lot:
                    row = exchange_row(one, other)
                    self.assertFalse(has_list(row))
                    self.assertTrue(plain_hold(one, other, row))
                    self.assertIs(twins_hold(one, other, row), True)
                    self.assertLess(len(row), max(1, len(one)))
                    if one == other:
                        self.assertEqual(row, ())
        for one, other in [("ab", "ba"), ("", "a"), ("a", ""), ("aab", "abb"), ("abab", "abba")]:
            self.assertIsNone(exchange_row(one, other))
        self.assertEqual(exchange_row("", ""), ())

    def test_long_texts(self):
        choice = chance(143)
        for _ in range(100):
            one = other = "".join(choice.choice("abcd") for _ in range(12))
            for _ in range(6):
                places = sorted(choice.choice(range(12)) for _ in range(4))
                other = plain_exchange(other, places) or other
            row = exchange_row(one, other)
            self.assertTrue(plain_hold(one, other, row))
            self.assertLess(len(row), 12)

    def test_hold(self):
        choice = chance(144)
        found = {True: 0, False: 0}
        for _ in range(250):
            one = "".join(choice.choice("ab") for _ in range(choice.randint(3, 9)))
            other = choice.choice(all_twins(one))
            row = exchange_row(one, other)
            for value in [row, row + row, row + exchange_row(other, one)] + changed_values(row, choice, 8):
                holds = twins_hold(one, other, value)
                self.assertIs(holds, bool(plain_hold(one, other, value)))
                found[holds] += 1
        self.assertGreater(min(found.values()), 200)
        # However many, and there and back again.
        there = exchange_row("xaxbx", "xbxax")
        self.assertTrue(twins_hold("xaxbx", "xbxax", (there + exchange_row("xbxax", "xaxbx")) * 9 + there))
        for value in [None, [], list(there), (list(there[0]),), ((0, 2, 2),), ((0, 2, 2, True),), ((0, 2, 2, 9),), ((-5, 2, 2, 4),)]:
            self.assertIs(twins_hold("xaxbx", "xbxax", value), False)
        self.assertIs(twins_hold("ab", "ab", ()), True)
        self.assertIs(twins_hold("ab", "ba", ()), False)


class TwinsTest(unittest.TestCase):
    def check(self, text, lot):
        self.assertTrue(same(all_twins(text), tuple(sorted(lot))))
        self.assertTrue(same(twin_count(text), len(lot)))
        twin = twin_text(text)
        self.assertEqual(twin is None, len(lot) == 1)
        if twin is not None:
            self.assertIn(twin, lot)
            self.assertNotEqual(twin, text)
            self.assertIn(twin, [plain_exchange(text, places) for places in
                                 itertools.combinations_with_replacement(range(len(text)), 4)])

    def test_all_short_texts(self):
        for signs, most in (("ab", 8), ("abc", 6)):
            for lot in by_grams(all_texts(signs, most)).values():
                for text in lot:
                    self.check(text, lot)

    def test_twelve_signs(self):
        choice = chance(145)
        lots = by_grams(all_texts("ab", 12))
        for text in choice.sample(all_texts("ab", 12), 60):
            self.check(text, lots[text_grams(text)])
        for text in ("aabacadaabac", "abcdabcdabcd", "abacadaeafag"):
            self.assertIn(text, all_twins(text))
            self.assertTrue(all(text_grams(twin) == text_grams(text) for twin in all_twins(text)))
        self.assertEqual(twin_count("abacadaeafag"), 120)


if __name__ == "__main__":
    unittest.main()
