"""[13]: grams of texts, and which pairs are some text's."""

import itertools
import unittest
from collections import Counter

from helpers import chance, changed_values, check_ways, keeps, odd_values, same
from whoiswho.edits import edit_distance
from whoiswho.errors import InvalidGrams, InvalidValue
from whoiswho.grams import gram_distance, grams_hold, grams_paper, text_grams

SMALL = ["".join(signs) for length in range(5) for signs in itertools.product("abc"[:2], repeat=length)]


def plain_grams(text):
    row = [""] + list(text) + [""]
    return sorted(zip(row, row[1:]))


def sides(grams, thing):
    return sum(gram[0] == thing for gram in grams), sum(gram[1] == thing for gram in grams)


def apart(grams):
    tied = {""}
    while True:
        more = {thing for gram in grams for thing in gram if set(gram) & tied} - tied
        if not more:
            return tuple(sorted({thing for gram in grams for thing in gram} - tied))
        tied |= more


def right_papers(grams):
    """All right papers but texts."""
    signs = sorted({thing for gram in grams for thing in gram} - {""})
    out = []
    if sides(grams, "") != (1, 1):
        out.append(("marks",) + sides(grams, ""))
    for sign in signs:
        if len(set(sides(grams, sign))) == 2:
            out.append(("uneven", sign) + sides(grams, sign))
    for size in range(1, len(signs) + 1):
        for lot in itertools.combinations(signs, size):
            if all((one in lot) == (other in lot) for one, other in grams):
                out.append(("apart", lot))
    return out


class GramsTest(unittest.TestCase):
    def check(self, grams):
        paper = grams_paper(grams)
        others = right_papers(grams)
        if others and others[0][0] in ("marks", "uneven"):
            self.assertTrue(same(paper, others[0]))
        elif others:
            self.assertTrue(same(paper, ("apart", apart(grams))))
            self.assertIn(paper, others)
        else:
            self.assertEqual(paper[0], "text")
            self.assertEqual(plain_grams(paper[1]), sorted(map(tuple, grams)))
        self.assertTrue(grams_hold(grams, paper))
        for other in others:
            self.assertTrue(same(grams_hold(grams, other), True))
        return paper

    def test_grams_of_texts(self):
        self.assertEqual(text_grams(""), (("", ""),))
        self.assertEqual(text_grams("aa"), (("", "a"), ("a", ""), ("a", "a")))
        for one in SMALL:
            self.assertTrue(same(text_grams(one), tuple(plain_grams(one))))
            for other in SMALL:
                a, b = Counter(plain_grams(one)), Counter(plain_grams(other))
                far = gram_distance(one, other)
                self.assertTrue(same(far, sum(((a - b) + (b - a)).values())))
                deeds = edit_distance(one, other)
                self.assertLessEqual(far, 4 * deeds - abs(len(one) - len(other)))

    def test_some_texts_reach_the_bound(self):
        for one, other in [("a", "b"), ("", "a"), ("abc", "adc"), ("ab", "acb")]:
            bound = 4 * edit_distance(one, other) - abs(len(one) - len(other))
            self.assertEqual(gram_distance(one, other), bound)

    def test_all_small_lots_of_pairs(self):
        pairs = list(itertools.product(("", "a", "b"), repeat=2))
        texts = {tuple(plain_grams(text)) for text in SMALL}
        seen = set()
        for many in range(5):
            for grams in itertools.combinations_with_replacement(pairs, many):
                paper = self.check(grams)
                seen.add(paper[0])
                self.assertEqual(paper[0] == "text", grams in texts)
        self.assertEqual(seen, {"marks", "uneven", "apart", "text"})

    def test_more_pairs_and_changed_papers(self):
        choice = chance(13)
        words = Counter()
        right = 0
        for _ in range(500):
            text = "".join(choice.choice("abcde") for _ in range(choice.choice([0, 3, 8, 40])))
            grams = plain_grams(text)
            choice.shuffle(grams)
            if choice.random() < 0.4 and len(grams) < 38:
                ring = choice.sample("vwxyz", choice.randint(1, 3))
                grams += list(zip(ring, ring[1:] + ring[:1]))
            for _ in range(choice.choice([0, 0, 1])):
                grams.pop()
            paper = self.check(grams)
            words[paper[0]] += 1
            others = right_papers(grams) if len({s for gram in grams for s in gram}) < 9 else None
            for value in changed_values(paper, choice, 6) if others is not None else ():
                told = any(same(value, other) for other in others) or (
                    type(value) is tuple and len(value) == 2 and same(value[0], "text") and type(value[1]) is str
                    and value[1].isascii() and value[1].isprintable() and plain_grams(value[1]) == sorted(grams))
                right += told
                self.assertTrue(same(grams_hold(grams, value), told), (grams, value))
        self.assertEqual(set(words), {"marks", "uneven", "apart", "text"})
        self.assertGreater(right, 10)

    def test_by_hand(self):
        self.assertTrue(same(grams_paper([]), ("marks", 0, 0)))
        self.assertTrue(same(grams_paper([("", "")]), ("text", "")))
        self.assertTrue(same(grams_paper([("b", "a"), ("", "")]), ("uneven", "a", 0, 1)))
        self.assertTrue(same(grams_paper([["a", "a"], ["", ""], ["z", "z"]]), ("apart", ("a", "z"))))
        rings = [("a", "a"), ("", ""), ("z", "z")]
        for lot, told in [(("a",), True), (("z",), True), (("a", "z"), True), (("z", "a"), False), ((), False), (["a"], False),
                          (("a", "a"), False), (("b",), False), (("a", ""), False), (("", "a"), False)]:
            self.assertTrue(same(grams_hold(rings, ("apart", lot)), told))
        self.assertFalse(grams_hold([("", "a"), ("a", "")], ("marks", 1, 1)))
        self.assertFalse(grams_hold([("a", "b")], ("marks", False, 0)))
        self.assertTrue(grams_hold([("a", "b")], ("marks", 0, 0)))
        self.assertTrue(grams_hold([("a", "b")], ("uneven", "b", 0, 1)))
        self.assertFalse(grams_hold([("a", "b")], ("uneven", "b", False, True)))
        self.assertFalse(grams_hold([("", "a")], ("uneven", "", 1, 0)))
        self.assertFalse(grams_hold([("a", "b")], ("uneven", "c", 0, 0)))
        self.assertTrue(grams_hold([("a", "b"), ("b", "a")], ("apart", ("a", "b"))))
        self.assertFalse(grams_hold([("a", "b"), ("b", "a")], ("apart", ("a",))))

    def test_errors(self):
        for gram in [("a",), ("a", "b", "c"), ("ab", "c"), ("a", None), ("a", "\n"), None, 3, ("a", 1), ("a", True),
                     ("\u00e9", ""), ("a", ("b",)), "a"]:
            for function in (grams_paper, lambda grams: grams_hold(grams, None)):
                with self.assertRaises(InvalidGrams) as caught:
                    function([("a", "b"), gram, None])
                self.assertTrue(same(caught.exception.at, 1))
        for value in (None, 3, "ab", True, [("a", "a")] * 42, [None] * 42):
            keeps(self, InvalidGrams, -1, grams_paper, value)
            keeps(self, InvalidGrams, -1, grams_hold, value, None)
        self.assertEqual(grams_paper([("a", "a")] * 41), ("marks", 0, 0))
        for text in (None, 0, ("a",), "\n", True):
            keeps(self, InvalidValue, 0, text_grams, text)
            keeps(self, InvalidValue, 0, gram_distance, text, text)
            keeps(self, InvalidValue, 1, gram_distance, "a", text)

    def test_odd_values_and_ways(self):
        for grams in (text_grams("anna"), text_grams("anna")[1:], text_grams("anna") + (("x", "x"),)):
            check_ways(self, grams_paper, (grams,), lists=(0,))
            check_ways(self, grams_hold, (grams, grams_paper(grams)), lists=(0,))
            for value in odd_values():
                self.assertTrue(same(grams_hold(grams, value), False))
                for word in ("marks", "uneven", "apart", "text"):
                    self.assertFalse(grams_hold(grams, (word, value)))
                    self.assertFalse(grams_hold(grams, (word, value, value)))
                    self.assertFalse(grams_hold(grams, (word, "a", value, value)))
                    self.assertFalse(grams_hold(grams, (word, value, 1, 2)))
                check_ways(self, grams_hold, (grams, value))
        for value in odd_values():
            check_ways(self, grams_paper, (value,))
            check_ways(self, text_grams, (value,))
            check_ways(self, gram_distance, (value, "a"))
        check_ways(self, gram_distance, ("anna", "hanna"))


if __name__ == "__main__":
    unittest.main()
