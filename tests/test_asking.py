"""[52]: how often it must be asked whether two are one."""

import itertools
import unittest

from helpers import chance, check_ways, has_list, keeps, odd_values, same
from test_measures import named, some_parts
from webs import partitions
from whoiswho.asking import asked_bounds, asked_pairs, order_asking
from whoiswho.best import Likes
from whoiswho.errors import InvalidBars, InvalidPeople, InvalidSize

NAMES = [(0, 0), (0, 1), (0, 3), (1, 0), (2, 5), (2, 6), (3, 0)]
A, B, C, D = NAMES[:4]


def is_one(parts, pair):
    return any(set(pair) <= set(group) for group in parts)


def plain_asked(parts, pairs):
    """Going through all answers ahead, each time from nothing."""
    asked = []
    for at, pair in enumerate(pairs):
        ones = [other for other in pairs[:at] if is_one(parts, other)]
        twos = [other for other in pairs[:at] if not is_one(parts, other)]
        lots = []
        for end in pair:
            lot = {end}
            for _ in ones:
                lot |= {name for other in ones if set(other) & lot for name in other}
            lots.append(lot)
        if pair[1] in lots[0]:
            continue
        if any((a in lots[0] and b in lots[1]) or (b in lots[0] and a in lots[1]) for a, b in twos):
            continue
        asked.append(pair)
    return tuple(asked)


class AskingTest(unittest.TestCase):
    def test_by_hand(self):
        parts = ((A, B, C), (D,))
        pairs = [(A, B), (A, D), (B, C), (C, D), (A, C), (B, D)]
        self.assertTrue(same(asked_pairs(parts, pairs), ((A, B), (A, D), (B, C))))
        self.assertTrue(same(asked_bounds(parts, pairs), (3, 5)))
        self.assertEqual(asked_pairs(parts, [(A, D), (C, D), (A, C), (A, B), (B, D), (B, C)]),
                         ((A, D), (C, D), (A, C), (A, B)))
        self.assertEqual((asked_pairs((), ()), asked_bounds((), ()), order_asking((), (), 0)), ((), (0, 0), ()))
        # What is two of something and of something else says nothing of both.
        self.assertEqual(asked_pairs(((A,), (B, C)), [(A, B), (A, C), (B, C)]), ((A, B), (A, C), (B, C)))

    def test_all_small_cases(self):
        pairs = list(itertools.combinations(NAMES[:4], 2))
        for people in partitions(4):
            parts = named(people, NAMES)
            for many in range(5):
                for lot in itertools.combinations(pairs, many):
                    counts = set()
                    for order in itertools.permutations(lot):
                        told = asked_pairs(parts, order)
                        self.assertEqual(told, plain_asked(parts, order))
                        counts.add(len(told))
                    self.assertTrue(same(asked_bounds(parts, lot), (min(counts), max(counts))))
                    self.assertEqual(counts, set(range(min(counts), max(counts) + 1)))

    def check_orders(self, parts, pairs):
        least, most = asked_bounds(parts, pairs)
        for many in range(least, most + 1):
            order = order_asking(parts, pairs, many)
            self.assertEqual(sorted(order), sorted(pairs))
            self.assertEqual(len(plain_asked(parts, order)), many)
            self.assertFalse(has_list(order))
        for many in (least - 1, most + 1, True, None, str(least), (least,)):
            keeps(self, InvalidSize, "many", order_asking, parts, pairs, many)
        return most - least

    def test_orders(self):
        choice = chance(52)
        spans = {}
        for _ in range(200):
            names = NAMES[:choice.randint(0, 7)]
            parts = some_parts(choice, names)
            all_pairs = list(itertools.combinations(names, 2))
            pairs = choice.sample(all_pairs, choice.randint(0, len(all_pairs)))
            self.assertTrue(same(asked_pairs(parts, pairs), plain_asked(parts, pairs)))
            span = self.check_orders(parts, pairs)
            spans[span] = spans.get(span, 0) + 1
        self.assertGreater(sum(spans[span] for span in spans if span > 2), 10)
        self.check_orders((tuple(NAMES[:3]), tuple(NAMES[3:])), list(itertools.combinations(NAMES, 2)))

    def test_bounds_by_orders(self):
        choice = chance(521)
        for _ in range(15):
            parts = some_parts(choice, NAMES[:5])
            lot = choice.sample(list(itertools.combinations(NAMES[:5], 2)), 6)
            counts = [len(plain_asked(parts, order)) for order in itertools.permutations(lot)]
            self.assertEqual(asked_bounds(parts, lot), (min(counts), max(counts)))

    def test_errors(self):
        for function, more in ((asked_pairs, ()), (asked_bounds, ()), (order_asking, (None,))):
            for parts in [None, 3, [], [(A,)], ((B, A),), ((A,), (A,)), ((B,), (A,)), ((A, B), (B,)), ((),), ([A],), ((A, (0, True)),), (3,),
                          ((A,), [B]), "ab", Likes(1, (), ())]:
                keeps(self, InvalidPeople, -1, function, parts, None, *more)
            for pair in [(B, A), (A, A), (A, D), (A, None), None, 3, (A,), (A, B, C), "ab", (A, B), ((0, False), C), (A, (0, 3, 0))]:
                keeps(self, InvalidBars, 1, function, ((A, B), (C,)), [(A, B), pair, None], *more)
            for value in (None, 3, "ab", True):
                keeps(self, InvalidBars, -1, function, ((A, B),), value, *more)
        for value in odd_values():
            check_ways(self, asked_pairs, (value, ()))
            check_ways(self, asked_pairs, (((A, B),), value), lists=(1,))
            check_ways(self, asked_bounds, (((A, B),), (value,)), lists=(1,))
            check_ways(self, order_asking, (((A, B),), ((A, B),), value), lists=(1,))
        parts, pairs = ((A, B), (C,)), ((A, C), (A, B), (B, C))
        check_ways(self, asked_pairs, (parts, pairs), lists=(1,))
        check_ways(self, asked_bounds, (parts, pairs), lists=(1,))
        check_ways(self, order_asking, (parts, pairs, 3), lists=(1,))


if __name__ == "__main__":
    unittest.main()
