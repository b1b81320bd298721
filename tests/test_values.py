"""[47], [48]: one value told from many, short forms, how sure it is."""

import itertools
import unittest

from helpers import chance, changed_values, check_ways, in_lists, keeps, odd_values, same
from whoiswho.best import Likes
from whoiswho.errors import InvalidRule, InvalidSources, InvalidSummary, Refused
from whoiswho.values import fewest_struck, joined_summaries, sum_up, summary_value, told_value, without_source

RULES = [("newest",), ("eldest",), ("most",), ("all",), ("houses", ()), ("houses", (2,)), ("houses", (1, 0)),
         ("houses", (0, 2, 1))]
POOLS = [[1, 2, 3], ["a", "b", "B"], [("a",), (), ("b", "a"), ("a", "a")]]


def some_sources(choice, most):
    pool = choice.choice(POOLS)
    names = choice.sample([(house, number) for house in range(3) for number in range(4)], choice.randint(0, most))
    return tuple((name, (choice.randint(0, 2), choice.randint(0, 2)),
                  None if choice.random() < 0.2 else choice.choice(pool)) for name in names)


def plain_told(rule, sources):
    told = [source for source in sources if source[2] is not None]
    if rule[0] == "all":
        return (tuple(sorted({value for _, _, value in told})), tuple(sorted(name for name, _, _ in told)))
    if not told:
        return (None, ())
    if rule[0] == "most":
        values = sorted({value for _, _, value in told})
        value = max(values, key=lambda value: sum(source[2] == value for source in told))
    elif rule[0] == "eldest":
        value = min(told, key=lambda source: (source[1], source[0]))[2]
    else:
        row = rule[1] if rule[0] == "houses" else ()
        value = min(told, key=lambda source: (row.index(source[0][0]) if source[0][0] in row else len(row),
                                              tuple(-n for n in source[1] + source[0])))[2]
    return (value, tuple(sorted(source[0] for source in told if source[2] == value)))


def plain_sum(sources):
    values = sorted({source[2] for source in sources if source[2] is not None})
    return tuple((value, tuple(sorted(source[:2] for source in sources if source[2] == value))) for value in values)


def kind(value):
    if type(value) is tuple and all(type(text) is str for text in value):
        return "strings"
    return type(value) if type(value) in (int, str) else None


def plain_name(value):
    return type(value) is tuple and len(value) == 2 and all(type(part) is int and part >= 0 for part in value)


def is_summary(value):
    if type(value) is not tuple:
        return False
    for row in value:
        if type(row) is not tuple or len(row) != 2 or kind(row[0]) is None or type(row[1]) is not tuple or not row[1]:
            return False
        for mark in row[1]:
            if type(mark) is not tuple or len(mark) != 2 or not all(map(plain_name, mark)):
                return False
        if list(row[1]) != sorted(set(row[1])):
            return False
    if len({kind(row[0]) for row in value}) > 1:
        return False
    names = [mark[0] for row in value for mark in row[1]]
    return len(set(names)) == len(names) and [row[0] for row in value] == sorted({row[0] for row in value})


class ValuesTest(unittest.TestCase):
    def test_told_values(self):
        choice = chance(47)
        for _ in range(400):
            sources = some_sources(choice, 8)
            mixed = list(sources)
            choice.shuffle(mixed)
            summary = sum_up(sources)
            self.assertTrue(same(summary, plain_sum(sources)))
            self.assertTrue(same(sum_up(mixed), summary))
            for rule in RULES:
                told = plain_told(rule, sources)
                self.assertTrue(same(told_value(rule, sources), told), (rule, sources))
                self.assertTrue(same(told_value(rule, mixed), told))
                self.assertTrue(same(summary_value(rule, summary), told))

    def test_nothing_told(self):
        for sources in ((), (((0, 0), (0, 0), None),)):
            for rule in RULES:
                self.assertTrue(same(told_value(rule, sources), ((), ()) if rule == ("all",) else (None, ())))
                self.assertIsNone(fewest_struck(rule, sources))
            self.assertEqual(sum_up(sources), ())

    def test_fewest_struck(self):
        choice = chance(48)
        for _ in range(150):
            sources = some_sources(choice, 7)
            for rule in RULES:
                struck = fewest_struck(rule, sources)
                told = plain_told(rule, sources)[0]
                names = sorted(source[0] for source in sources if source[2] is not None)
                if not names:
                    self.assertIsNone(struck)
                    continue

                def turns(lot):
                    return plain_told(rule, [source for source in sources if source[0] not in lot])[0] != told

                fewest = next(size for size in range(len(names) + 1)
                              if any(turns(lot) for lot in itertools.combinations(names, size)))
                self.assertEqual(len(struck), fewest)
                self.assertIs(type(struck), tuple)
                self.assertEqual(list(struck), sorted(set(struck)))
                self.assertTrue(set(struck) <= set(names))
                self.assertTrue(turns(struck))

    def test_summaries_in_parts(self):
        choice = chance(481)
        for _ in range(150):
            sources = list(some_sources(choice, 8))
            parts = [[] for _ in range(choice.randint(1, 3))]
            for source in sources:
                choice.choice(parts).append(source)
            summary = ()
            gone = []
            for part in parts:
                here = sum_up(part)
                summary = joined_summaries(here, summary) if choice.random() < 0.5 else joined_summaries(summary, here)
                names = [mark[0] for _, marks in summary for mark in marks]
                if names and choice.random() < 0.5:
                    gone.append(choice.choice(names))
                    summary = without_source(summary, list(gone[-1]) if choice.random() < 0.5 else gone[-1])
            left = [source for source in sources if source[0] not in gone]
            self.assertTrue(same(summary, plain_sum(left)))
            for rule in RULES:
                self.assertTrue(same(summary_value(rule, summary), plain_told(rule, left)))

    def test_told_values_alone_are_not_enough_for_most(self):
        def lot(first, values):
            return sum_up([((0, first + at), (0, 0), value) for at, value in enumerate(values)])

        for one, other, both in [((1, 1, 2), (2, 2), 2), ((1, 1, 2), (2, 3), 1)]:
            self.assertEqual(summary_value(("most",), lot(0, one))[0], 1)
            self.assertEqual(summary_value(("most",), lot(9, other))[0], 2)
            self.assertEqual(summary_value(("most",), joined_summaries(lot(0, one), lot(9, other)))[0], both)

    def test_wrong_sources(self):
        first = ((0, 0), (0, 0), 1)
        wrong = [((0, 0), (0, 1), 2), ((0, 1), (0, 0), "a"), ((0, 1), (0, 0), ()), ((0, 1), (0, 0), True), ((0, 1), (0,), 1),
                 ((0, 1), (0, True), 1), ((0, -1), (0, 0), 1), ((0, 1), (0, 0)), ((0, 1), (0, 0), 1, 1), None, 3, "abc",
                 (None, (0, 0), 1), ((0, 1), (0, 0), (1,)), ((0, 1), (0, 0), [None]), ((0, 0), (0, 0), None),
                 ((0, 1), (0, 0), (("a",),)), ((0, 1), (0, 0), Likes(1, (), ()))]
        for source in wrong:
            for rows in ([first, source, None], [first, source]):
                keeps(self, InvalidSources, 1, sum_up, rows)
                keeps(self, InvalidSources, 1, told_value, ("most",), rows)
                keeps(self, InvalidSources, 1, fewest_struck, ("most",), rows)
        keeps(self, InvalidSources, 2, sum_up, [((1, 1), (0, 0), None), first, ((0, 1), (0, 0), "1")])
        for value in ((1,), [None], (("a",),), True, ("a", True), Likes(1, (), ()), (["a"], "b")):
            keeps(self, InvalidSources, 1, sum_up, [((1, 1), (0, 0), None), ((0, 1), (0, 0), value)])
            keeps(self, InvalidSummary, -1, without_source, ((value, (((0, 0), (0, 0)),)),), (0, 0))
        for value in (None, 3, "ab", True, Likes(1, (), ())):
            keeps(self, InvalidSources, -1, sum_up, value)
            keeps(self, InvalidSources, -1, told_value, ["all"], value)
            keeps(self, InvalidSources, -1, fewest_struck, ["all"], value)
        self.assertTrue(same(sum_up([[[0, 1], [2, 3], ["b", "a"]]]), ((("b", "a"), (((0, 1), (2, 3)),)),)))

    def test_wrong_rules(self):
        for rule in [(), ("new",), ("newest", ()), ("houses",), ("houses", (0, 0)), ("houses", (True,)), ("houses", (-1,)),
                     ("houses", 0), ("houses", None), ("houses", (0,), 0), "newest", None, 3, ("most", 1), (["most"],),
                     (("all",),), (True,), ("houses", ("0",)), Likes(1, (), ())]:
            keeps(self, InvalidRule, -1, told_value, rule, None)
            keeps(self, InvalidRule, -1, fewest_struck, rule, None)
            keeps(self, InvalidRule, -1, summary_value, rule, None)

    def test_wrong_summaries(self):
        choice = chance(482)
        summary = sum_up([((0, 0), (0, 1), "a"), ((1, 0), (0, 1), "b"), ((2, 2), (1, 1), "a"), ((1, 3), (0, 0), "c")])
        values = odd_values() + changed_values(summary, choice, 400) + [in_lists(summary), [summary[0]], summary[::-1]]
        right = 0
        for value in values:
            if is_summary(value):
                right += 1
                self.assertTrue(same(joined_summaries(value, ()), value))
                self.assertTrue(same(joined_summaries((), value), value))
            else:
                keeps(self, InvalidSummary, -1, summary_value, ("all",), value)
                keeps(self, InvalidSummary, -1, joined_summaries, value, None)
                keeps(self, InvalidSummary, -1, joined_summaries, (), value)
                keeps(self, InvalidSummary, -1, without_source, value, None)
        self.assertGreater(right, 20)
        mark = (((0, 0), (0, 0)),)
        for value in [((1, mark), ("a", (((0, 1), (0, 0)),))), ((1, mark), (2, mark)), ((1, ()),), ((None, mark),),
                      ((True, mark),), ((["a"], mark),), ((2, mark), (1, (((0, 1), (0, 0)),)))]:
            keeps(self, InvalidSummary, -1, without_source, value, (0, 0))

    def test_refused(self):
        one = sum_up([((0, 1), (0, 0), 1), ((0, 3), (0, 0), 2)])
        keeps(self, Refused, (0, 1), joined_summaries, one, sum_up([((0, 3), (5, 5), 1), ((0, 1), (7, 7), 4)]))
        keeps(self, Refused, (0, 3), joined_summaries, one, sum_up([((0, 3), (5, 5), "a")]))
        keeps(self, Refused, -1, joined_summaries, one, sum_up([((0, 4), (5, 5), "a")]))
        self.assertEqual(joined_summaries(one, ()), one)
        for name, kept in [((0, 2), (0, 2)), ([0, 2], (0, 2)), (None, None), (3, 3), ("ab", "ab"), ((0,), (0,)),
                           ([[0], 1], ((0,), 1)), ((False, 1), (False, 1)), ((0, True), (0, True))]:
            keeps(self, Refused, kept, without_source, one, name)
        self.assertTrue(same(without_source(one, [0, 1]), one[1:]))

    def test_odd_values_and_ways(self):
        choice = chance(4848)
        for _ in range(10):
            sources = some_sources(choice, 6)
            for rule in RULES:
                check_ways(self, told_value, (rule, sources), lists=(0, 1))
                check_ways(self, fewest_struck, (rule, sources), lists=(0, 1))
                check_ways(self, summary_value, (rule, sum_up(sources)), lists=(0,))
            check_ways(self, sum_up, (sources,), lists=(0,))
            check_ways(self, joined_summaries, (sum_up(sources[:2]), sum_up(sources[2:])))
            check_ways(self, without_source, (sum_up(sources), (0, 0)), lists=(1,))
            for value in odd_values():
                check_ways(self, told_value, (value, sources))
                check_ways(self, told_value, (("all",), value))
                check_ways(self, without_source, (sum_up(sources), value))


if __name__ == "__main__":
    unittest.main()
