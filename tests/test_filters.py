"""[19] to [21]: marks, pieces and keys that find all that is near."""

import itertools
import unittest

from helpers import chance, check_ways, has_list, keeps, odd_values, same
from test_comparing import TAKEN
from whoiswho.best import Likes
from whoiswho.comparing import field_distance
from whoiswho.edits import edit_distance
from whoiswho.errors import InvalidComparer, InvalidIndex, InvalidLot, InvalidSize, InvalidText, InvalidValue, Refused
from whoiswho.filters import asked_keys, first_marks, found_looks, keeping_paper, piece_places, put_keys, spoilt_text
from whoiswho.filters import text_looks
from whoiswho.grams import text_grams

SIZES = (-1, True, None, "1", (1,))


def all_lots(marks, least=0):
    return [lot for many in range(least, len(marks) + 1) for lot in itertools.combinations(marks, many)]


def plain_first(order, lot, near):
    kept = [mark for mark in order if mark in lot][:near + 1]
    return tuple(kept) + ((None,) if len(lot) <= near else ())


class MarksTest(unittest.TestCase):
    def test_first_marks(self):
        self.assertTrue(same(first_marks([5, 0, 3, 9], [9, 0, 5], 1), (5, 0)))
        self.assertTrue(same(first_marks((5, 0, 3, 9), (9, 0), 2), (0, 9, None)))
        self.assertTrue(same(first_marks((5,), (), 0), (None,)))
        self.assertTrue(same(first_marks((5,), (5,), 0), (5,)))
        self.assertTrue(same(first_marks((), (), 3), (None,)))

    def test_near_lots_have_one_in_common(self):
        choice = chance(19)
        marks = list(range(6))
        lots = all_lots(marks)
        for near in range(4):
            order = choice.sample(marks, 6)
            firsts = {lot: first_marks(order, choice.sample(lot, len(lot)), near) for lot in lots}
            for lot in lots:
                self.assertTrue(same(firsts[lot], plain_first(order, lot, near)))
            for one, other in itertools.product(lots, repeat=2):
                if len(set(one) ^ set(other)) <= near:
                    self.assertTrue(set(firsts[one]) & set(firsts[other]))

    def plain_paper(self, rows, near):
        for at, behind in itertools.combinations_with_replacement(range(len(rows)), 2):
            (one, kept), (other, others) = rows[at], rows[behind]
            if len(set(one) ^ set(other)) <= near and set(one) & set(other) and not set(kept) & set(others):
                return ("missed", at, behind)
        return ("kept",)

    def test_keeping_papers(self):
        choice = chance(191)
        found = {}
        for _ in range(400):
            near = choice.randint(0, 3)
            lots = choice.sample(all_lots(range(5)), choice.randint(0, 12))
            order = choice.sample(range(5), 5)
            rows = []
            for lot in lots:
                kept = [mark for mark in plain_first(order, lot, near) if mark is not None]
                if choice.random() < 0.1:
                    kept = choice.sample(lot, choice.randint(0, len(lot)))
                rows.append((choice.sample(lot, len(lot)), tuple(kept)))
            paper = keeping_paper(rows, near)
            self.assertTrue(same(paper, self.plain_paper(rows, near)))
            found[paper[0]] = found.get(paper[0], 0) + 1
        self.assertGreater(min(found.values()), 80)
        self.assertEqual(keeping_paper([((1, 2), ())], 0), ("missed", 0, 0))
        self.assertEqual(keeping_paper([((), ())], 0), ("kept",))
        self.assertEqual(keeping_paper([], 0), ("kept",))
        self.assertEqual(keeping_paper([((), ()), ([1], [1]), ((1, 2), (2,)), ((2,), (2,))], 1), ("missed", 1, 2))

    def test_nobody_keeps_fewer(self):
        # Each part of a lot is some row's lot: kept means near + 1 marks or more, or all.
        choice = chance(192)
        held = 0
        for _ in range(600):
            near = choice.randint(0, 2)
            rows = []
            for lot in all_lots(range(4), 1):
                least = min(len(lot), near + choice.choice([1, 1, 1, 1, 0]))
                rows.append((lot, lot[:least] if choice.random() < 0.8 else tuple(choice.sample(lot, least))))
            if keeping_paper(rows, near) == ("kept",):
                held += 1
                self.assertTrue(all(len(kept) >= min(len(lot), near + 1) for lot, kept in rows))
        self.assertGreater(held, 5)

    def test_errors(self):
        for value in [None, 3, "ab", True, (1, 1), (0, -1), (0, True), (0, None), ((0,),), Likes(1, (), ())]:
            keeps(self, InvalidLot, 0, first_marks, value, value, None)
            keeps(self, InvalidLot, 1, first_marks, (0, 1), value, None)
        keeps(self, InvalidLot, 1, first_marks, (0, 1), (2,), None)
        for near in SIZES:
            keeps(self, InvalidSize, "near", first_marks, (0,), (0,), near)
            keeps(self, InvalidSize, "near", keeping_paper, [((0,), (0,))], near)
        first = ((0, 1), (0,))
        for row in [None, 3, ((2,),), ((2,), (3,)), ((2,), (2, 2)), ((2, 2), ()), ((True,), ()), ((1, 0), ()), ((2,), (2,), ()), ("a", ()),
                    ((2,), None), ([0, 1], (1,))]:
            keeps(self, InvalidLot, 1, keeping_paper, [first, row, None], None)
        for value in (None, 3, True, "ab"):
            keeps(self, InvalidLot, -1, keeping_paper, value, None)
        for value in odd_values():
            check_ways(self, first_marks, (value, (0,), 1), lists=(0, 1))
            check_ways(self, first_marks, ((0, 1), value, 1), lists=(0, 1))
            check_ways(self, first_marks, ((0, 1), (0,), value), lists=(0, 1))
            check_ways(self, keeping_paper, (value, 1), lists=(0,))
            check_ways(self, keeping_paper, ((first, value), 1), lists=(0,))
        check_ways(self, keeping_paper, ((first, ((1,), ())), 1), lists=(0,))


def plain_looks(length, near, other):
    found = []
    for at, (begin, end) in enumerate(piece_places(length, near)):
        for here in range(other + 1):
            shift = here - begin
            if abs(shift) <= at and abs(other - length - shift) <= near - at and here + end - begin <= other:
                found.append((at, here))
    return tuple(found)


class LooksTest(unittest.TestCase):
    def test_pieces(self):
        self.assertTrue(same(piece_places(7, 2), ((0, 2), (2, 4), (4, 7))))
        self.assertEqual(piece_places(0, 1), ((0, 0), (0, 0)))
        self.assertEqual(piece_places(1, 2), ((0, 0), (0, 0), (0, 1)))
        for length in range(21):
            for near in range(6):
                places = piece_places(length, near)
                self.assertEqual(places, tuple((length * at // (near + 1), length * (at + 1) // (near + 1))
                                               for at in range(near + 1)))

    def test_looks(self):
        for length in range(16):
            for near in range(5):
                for other in range(20):
                    looks = text_looks(length, near, other)
                    self.assertTrue(same(looks, plain_looks(length, near, other)))
                    apart = other - length
                    if length >= 2 * (near + 1):
                        many = (near * near - apart * apart) // 2 + near + 1 if abs(apart) <= near else 0
                        self.assertEqual(len(looks), many)

    def test_found_looks(self):
        texts = ["".join(row) for many in range(6) for row in itertools.product("ab", repeat=many)]
        choice = chance(20)
        for _ in range(3000):
            one, other, near = choice.choice(texts), choice.choice(texts), choice.randint(0, 3)
            pieces = [one[begin:end] for begin, end in piece_places(len(one), near)]
            told = found_looks(one, other, near)
            self.assertTrue(same(told, tuple((at, begin) for at, begin in plain_looks(len(one), near, len(other))
                                             if other[begin:].startswith(pieces[at]))))
            if edit_distance(one, other) <= near:
                self.assertTrue(told, (one, other, near))

    def test_near_texts_have_one(self):
        choice = chance(201)
        for _ in range(600):
            one = other = "".join(choice.choice("abcd") for _ in range(choice.randint(0, 20)))
            near = choice.randint(0, 5)
            for _ in range(near):
                at = choice.randint(0, len(other))
                other = other[:at] + choice.choice(["", "a", "b"]) + other[at + choice.randint(0, 1):]
            if edit_distance(one, other) <= near:
                self.assertTrue(found_looks(one, other, near))

    def test_no_look_can_be_spared(self):
        choice = chance(202)
        signs = "".join(map(chr, range(32, 127)))
        many = 0
        for near in range(6):
            for length in range(2 * (near + 1), min(21, 2 * near + 7)):
                text = "".join(choice.sample(signs, length))
                for other in range(max(0, length - near - 1), length + near + 2):
                    for look in text_looks(length, near, other):
                        spoilt = spoilt_text(text, near, look, other)
                        self.assertEqual(len(spoilt), other)
                        self.assertLessEqual(edit_distance(text, spoilt), near)
                        self.assertEqual(found_looks(text, spoilt, near), (look,))
                        many += 1
        self.assertGreater(many, 800)
        # A text of all signs that there are leaves no other sign to spoil it with.
        for near in (1, 5, 20):
            for look in text_looks(95, near, 94):
                self.assertEqual(found_looks(signs, spoilt_text(signs, near, look, 94), near), (look,))

    def test_errors(self):
        for value in SIZES:
            keeps(self, InvalidSize, "length", piece_places, value, None)
            keeps(self, InvalidSize, "near", piece_places, 0, value)
            keeps(self, InvalidSize, "length", text_looks, value, None, None)
            keeps(self, InvalidSize, "near", text_looks, 0, value, None)
            keeps(self, InvalidSize, "other", text_looks, 0, 0, value)
            keeps(self, InvalidSize, "near", found_looks, "", "", value)
            keeps(self, InvalidSize, "near", spoilt_text, "aa", value, None, None)
            keeps(self, InvalidSize, "other", spoilt_text, "aa", 1, None, value)
        for value in (None, 3, True, ("a",), "\n"):
            keeps(self, InvalidText, 0, found_looks, value, value, None)
            keeps(self, InvalidText, 1, found_looks, "", value, None)
            keeps(self, InvalidText, -1, spoilt_text, value, None, None, None)
        for text in ("abc", "abca", ""):
            keeps(self, Refused, -1, spoilt_text, text, 1, None, 4)
        for look in [None, 3, (), (0,), (0, 0, 0), (0, True), (False, 0), (2, 0), (0, 1), (1, 0), "00", (0, -1)]:
            keeps(self, InvalidIndex, -1, spoilt_text, "abcd", 1, look, 4)
        keeps(self, InvalidIndex, -1, spoilt_text, "abcd", 1, (0, 0), 6)
        self.assertEqual(len(spoilt_text("abcd", 1, [1, 1], 3)), 3)
        for look in [(1, True), (True, 1), (True, True)]:
            keeps(self, InvalidIndex, -1, spoilt_text, "abcd", 1, look, 3)
        for value in odd_values():
            check_ways(self, piece_places, (value, 1))
            check_ways(self, text_looks, (4, 1, value) if value != 10 ** 20 else (4, 1, 5))
            check_ways(self, found_looks, (value, "a", 1))
            check_ways(self, spoilt_text, ("abcd", 1, value, 4), lists=(2,))
        check_ways(self, spoilt_text, ("abcd", 1, (0, 0), 4), lists=(2,))


def numbered(text):
    often, rows = {}, []
    for gram in text_grams(text):
        rows.append(gram + (often.get(gram, 0),))
        often[gram] = often.get(gram, 0) + 1
    return rows


def plain_common(comparer, near, value, another):
    """Whether a put key of the value is an asked one of the other, as the document tells."""
    if comparer in ("exact", "shared"):
        return field_distance(comparer, value, another) == 0
    if comparer in ("lists", "grams"):
        rows = [list(thing) if comparer == "lists" else numbered(thing) for thing in (value, another)]
        order = sorted(set(rows[0]) | set(rows[1]))
        one, other = (first_marks(range_of(order), [order.index(thing) for thing in row], near) for row in rows)
        return bool(set(one) & set(other))
    if comparer == "edits":
        return bool(found_looks(value, another, near))
    wide = 2 * near + 1
    return value // wide in ((another - near) // wide, (another + near) // wide)


def range_of(order):
    return list(range(len(order)))


class KeysTest(unittest.TestCase):
    def test_keys(self):
        choice = chance(21)
        found = {}
        more = {"apart": list(range(-12, 13)),
                "edits": ["".join(choice.choice("ab") for _ in range(choice.randint(0, 8))) for _ in range(30)],
                "grams": ["".join(choice.choice("ab") for _ in range(choice.randint(0, 6))) for _ in range(30)],
                "lists": all_lots("abcde")}
        for comparer, values in TAKEN.items():
            values = values + more.get(comparer, [])
            for near in range(4):
                if comparer in ("exact", "shared") and near > 0:
                    for value in values + [None]:
                        self.assertIsNone(put_keys(comparer, near, value))
                        self.assertIsNone(asked_keys(comparer, near, value))
                    continue
                self.assertEqual((put_keys(comparer, near, None), asked_keys(comparer, near, None)), ((), ()))
                puts = [put_keys(comparer, near, value) for value in values]
                asks = [asked_keys(comparer, near, value) for value in values]
                for keys in puts + asks:
                    self.assertIsInstance(keys, tuple)
                    self.assertFalse(has_list(keys))
                    self.assertTrue(all(keys.count(key) == 1 for key in keys))
                for one, put in zip(values, puts):
                    for other, asked in zip(values, asks):
                        common = any(key in asked for key in put)
                        self.assertIs(common, plain_common(comparer, near, one, other), (comparer, near, one, other))
                        found[(comparer, common)] = found.get((comparer, common), 0) + 1
                        if field_distance(comparer, one, other) <= near:
                            self.assertTrue(common)
        self.assertGreater(min(found.values()), 8)

    def test_errors(self):
        for function in (put_keys, asked_keys):
            for comparer in (None, "Exact", 3, ["exact"], True):
                with self.assertRaises(InvalidComparer):
                    function(comparer, None, True)
            for near in SIZES:
                for comparer in TAKEN:
                    keeps(self, InvalidSize, "near", function, comparer, near, True)
            for comparer in TAKEN:
                for value in (True, "\n", ("b", "a"), Likes(1, (), ())):
                    for near in (0, 1):
                        keeps(self, InvalidValue, 0, function, comparer, near, value)
            keeps(self, InvalidValue, 0, function, "edits", 1, 3)
            keeps(self, InvalidValue, 0, function, "apart", 1, "3")
            keeps(self, InvalidValue, 0, function, "shared", 1, "3")
            for value in odd_values():
                check_ways(self, function, (value, 0, "a"))
                for comparer in TAKEN:
                    check_ways(self, function, (comparer, 0, value), lists=(2,))
                    check_ways(self, function, (comparer, 1, value), lists=(2,))


if __name__ == "__main__":
    unittest.main()
