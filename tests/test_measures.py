"""[66] and the words ahead of it: two partitions of the same names."""

import itertools
import unittest

from helpers import chance, changed_values, check_ways, in_lists, keeps, odd_values, same
from webs import partitions
from whoiswho.errors import InvalidIndex, InvalidPeople, NoRecord, Refused
from whoiswho.measures import Pairs, cell_counts, need_parts, pair_counts, unlike_pairs

TWO = [cell_counts, pair_counts, unlike_pairs, Pairs]


def named(people, names):
    return tuple(sorted(tuple(sorted(names[thing] for thing in group)) for group in people))


def some_parts(choice, names):
    groups = {}
    for name in names:
        groups.setdefault(choice.randrange(max(1, len(names))), []).append(name)
    return tuple(sorted(tuple(sorted(group)) for group in groups.values()))


def plain_name(value):
    return type(value) is tuple and len(value) == 2 and all(type(part) is int and part >= 0 for part in value)


def plain_fault(value):
    if type(value) is not tuple:
        return -1
    seen = []
    for at, group in enumerate(value):
        if type(group) is not tuple or not group or not all(map(plain_name, group)):
            return at
        if list(group) != sorted(set(group)) or set(group) & set(seen) or (at and not value[at - 1] < group):
            return at
        seen.extend(group)
    return None


def answers(parts):
    names = sorted(name for group in parts for name in group)
    return {pair: any(pair[0] in group and pair[1] in group for group in parts)
            for pair in itertools.combinations(names, 2)}


def plain_counts(one, other):
    first, second = answers(one), answers(other)
    return tuple(sum(first[pair] == a and second[pair] == b for pair in first)
                 for a, b in ((True, True), (True, False), (False, True), (False, False)))


class PartsTest(unittest.TestCase):
    def test_need_parts(self):
        choice = chance(66)
        faults = set()
        names = [(0, 0), (0, 1), (0, 3), (1, 0), (2, 5)]
        for people in partitions(5):
            parts = named(people, names)
            self.assertIs(need_parts(parts), parts)
            for value in changed_values(parts, choice, 30):
                fault = plain_fault(value)
                faults.add(fault)
                if fault is None:
                    self.assertIs(need_parts(value), value)
                else:
                    keeps(self, InvalidPeople, fault, need_parts, value)
        self.assertLessEqual({None, -1, 0, 1, 2}, faults)
        self.assertEqual(need_parts(()), ())

    def test_wrong_parts_by_hand(self):
        first = ((0, 1),)
        for group in [(), [(1, 0)], ([1, 0],), ((1, 0), (1, 0)), ((2, 0), (1, 0)), ((1, True),), ((1, -1),), ((1,),), None,
                      ((0, 0),), ((0, 1), (1, 1)), ((1, 0), 3), "ab", ((1, 0, 0),)]:
            keeps(self, InvalidPeople, 1, need_parts, (first, group, None))
            for function in TWO:
                keeps(self, InvalidPeople, 1, function, (first, group, None), None)
                keeps(self, InvalidPeople, 1, function, (), (first, group, None))
        for value in odd_values():
            fault = plain_fault(value)
            check_ways(self, need_parts, (value,))
            for function in TWO:
                if fault is not None:
                    keeps(self, InvalidPeople, fault, function, value, 3)
                    keeps(self, InvalidPeople, fault, function, (first,), value)

    def test_unlike_names(self):
        for one, other in [((((0, 0),),), ()), ((((0, 0),),), (((0, 1),),)), ((((0, 0), (0, 1)),), (((0, 0),),))]:
            for function in TWO:
                keeps(self, Refused, "names", function, one, other)
                keeps(self, Refused, "names", function, other, one)

    def test_examples(self):
        one, other = (((0, 0), (0, 1)), ((1, 0),)), (((0, 0),), ((0, 1), (1, 0)))
        self.assertEqual(pair_counts(one, other), (0, 1, 1, 1))
        self.assertEqual(cell_counts(one, other), ((0, 0, 1), (0, 1, 1), (1, 1, 1)))
        self.assertEqual(unlike_pairs(one, other), (((0, 0), (0, 1)), ((0, 1), (1, 0))))
        for function in TWO[:3]:
            check_ways(self, function, (one, other))
            keeps(self, InvalidPeople, -1, function, in_lists(one), other)
            self.assertEqual(function((), ()), (0, 0, 0, 0) if function is pair_counts else ())

    def test_all_parts_of_five(self):
        names = [(0, 0), (0, 1), (0, 3), (1, 0), (2, 5)]
        every = [named(people, names) for people in partitions(4)]
        for one in every:
            for other in every:
                counts = pair_counts(one, other)
                self.assertTrue(same(counts, plain_counts(one, other)))
                first, second = answers(one), answers(other)
                unlike = tuple(sorted(pair for pair in first if first[pair] != second[pair]))
                self.assertTrue(same(unlike_pairs(one, other), unlike))
                cells = tuple((i, j, len(set(a) & set(b))) for i, a in enumerate(one) for j, b in enumerate(other)
                              if set(a) & set(b))
                self.assertTrue(same(cell_counts(one, other), cells))
                self.assertEqual(counts[0], sum(many * (many - 1) // 2 for _, _, many in cells))
                self.assertEqual(counts[0] + counts[1], sum(len(row) * (len(row) - 1) // 2 for row in one))
                self.assertEqual(len(unlike), counts[1] + counts[2])
                self.assertEqual(len(unlike) == 0, one == other)
                self.assertEqual(unlike, unlike_pairs(other, one))
                for third in every:
                    self.assertLessEqual(len(unlike), len(unlike_pairs(one, third)) + len(unlike_pairs(third, other)))


class PairsTest(unittest.TestCase):
    def test_moves(self):
        choice = chance(661)
        for _ in range(60):
            names = choice.sample([(house, number) for house in range(3) for number in range(4)], choice.randint(1, 9))
            one, other = some_parts(choice, names), some_parts(choice, names)
            pairs = Pairs(one, other)
            self.assertTrue(same((pairs.one, pairs.other, pairs.counts), (one, other, plain_counts(one, other))))
            for _ in range(30):
                name, group = choice.choice(names), choice.randint(-1, len(pairs.other) - 1)
                ahead = pairs.other
                groups = [set(row) - {name} for row in ahead]
                if group == -1:
                    groups.append({name})
                else:
                    groups[group].add(name)
                told = pairs.move_name(list(name) if choice.random() < 0.5 else name, group)
                self.assertIsNone(told)
                self.assertTrue(same(pairs.other, tuple(sorted(tuple(sorted(row)) for row in groups if row))))
                self.assertIs(pairs.one, one)
                self.assertTrue(same(pairs.counts, plain_counts(one, pairs.other)))
                if group >= 0 and name in ahead[group]:
                    self.assertEqual(pairs.other, ahead)

    def test_by_names(self):
        parts = (((0, 0), (0, 1)),)
        pairs = Pairs(other=parts, one=parts)
        pairs.move_name(group=-1, name=(0, 1))
        self.assertEqual((pairs.other, pairs.counts), ((((0, 0),), ((0, 1),)), (0, 1, 0, 0)))
        pairs.move_name((0, 1), -1)
        self.assertEqual((pairs.other, pairs.counts), ((((0, 0),), ((0, 1),)), (0, 1, 0, 0)))
        pairs.move_name((0, 0), 1)
        self.assertEqual((pairs.other, pairs.counts), (parts, (1, 0, 0, 0)))

    def test_errors_change_nothing(self):
        parts = (((0, 0), (0, 1)), ((1, 0),))
        pairs = Pairs(parts, parts)
        for name in [(5, 5), None, (0,), (0, False), "00", ((0, 0),), [(0, 0)], [5, 5], pairs, (0, 0, 0)]:
            for group in (0, 9, None):
                keeps(self, NoRecord, name, pairs.move_name, name, group)
        for group in (2, -2, True, None, "0", (0,), [0]):
            keeps(self, InvalidIndex, -1, pairs.move_name, (0, 0), group)
        self.assertEqual((pairs.one, pairs.other, pairs.counts), (parts, parts, (1, 0, 0, 2)))
        none = Pairs((), ())
        keeps(self, NoRecord, (0, 0), none.move_name, (0, 0), -1)

    def test_no_iteration_no_length(self):
        for call in (iter, len):
            with self.assertRaises(TypeError):
                call(Pairs((), ()))


if __name__ == "__main__":
    unittest.main()
