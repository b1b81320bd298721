"""[44] to [46]: numbers that groups keep from day to day."""

import itertools
import unittest

from helpers import chance, changed_values, check_ways, in_lists, keeps, odd_values, same
from webs import partitions
from whoiswho.best import Likes
from whoiswho.errors import InvalidIndex, InvalidNames, InvalidPeople, InvalidSize
from whoiswho.naming import changed_records, days_of, named_days, named_people, names_hold, names_paper, sure_names


def some_groups(choice, most=8, share=0.8):
    records = [(number // 4, number % 4) for number in range(most) if choice.random() < share]
    groups = {}
    spread = choice.randint(1, most)
    for record in records:
        groups.setdefault(choice.randrange(spread), []).append(record)
    return tuple(sorted(tuple(sorted(group)) for group in groups.values()))


def some_rows(choice, most=8):
    people = list(some_groups(choice, most))
    choice.shuffle(people)
    numbers = sorted(choice.sample(range(20), len(people)))
    return tuple(zip(numbers, people))


def dealings(named, people, fresh):
    """All dealings, as tuples of numbers for the groups in order."""
    options = [[None] + [number for number, group in named if set(group) & set(mine)] for mine in people]
    for row in itertools.product(*options):
        elder = [number for number in row if number is not None]
        if len(set(elder)) == len(elder):
            count = itertools.count(fresh)
            yield tuple(next(count) if number is None else number for number in row)


def changes(named, later):
    first = {record: number for number, group in named for record in group}
    second = {record: number for number, group in later for record in group}
    return tuple(record for record in sorted(first) if record in second and first[record] != second[record])


def rows_of(people, dealing):
    return tuple(sorted(zip(dealing, people)))


def best_dealings(named, people, fresh):
    every = list(dealings(named, people, fresh))
    fewest = min(len(changes(named, rows_of(people, dealing))) for dealing in every)
    return fewest, [dealing for dealing in every if len(changes(named, rows_of(people, dealing))) == fewest]


def plain_holds(named, people, fresh, value):
    if type(value) is not tuple or len(value) != 4:
        return False
    fewest, best = best_dealings(named, people, fresh)
    if not any(same(value[0], rows_of(people, dealing)) for dealing in best) or not same(value[1], fewest):
        return False
    for prices, many in ((value[2], len(named)), (value[3], len(people))):
        if type(prices) is not tuple or len(prices) != many or not all(type(p) is int and p >= 0 for p in prices):
            return False
    for (_, group), price in zip(named, value[2]):
        for mine, other in zip(people, value[3]):
            if price + other < len(set(group) & set(mine)):
                return False
    numbers = dict(named)
    shared = sum(len(set(group) & set(numbers.get(number, ()))) for number, group in value[0])
    return sum(value[2]) + sum(value[3]) == shared


def plain_name(value):
    return type(value) is tuple and len(value) == 2 and all(type(part) is int and part >= 0 for part in value)


def is_group(value):
    return type(value) is tuple and len(value) > 0 and all(map(plain_name, value)) and list(value) == sorted(set(value))


def are_groups(value):
    if type(value) is not tuple or not all(map(is_group, value)):
        return False
    records = sum(value, ())
    return len(set(records)) == len(records) and list(value) == sorted(value)


def rows_fault(value):
    if type(value) is not tuple:
        return -1
    seen = set()
    for at, row in enumerate(value):
        if type(row) is not tuple or len(row) != 2 or type(row[0]) is not int or row[0] < 0 or not is_group(row[1]):
            return at
        if (at and value[at - 1][0] >= row[0]) or seen & set(row[1]):
            return at
        seen |= set(row[1])
    return None


class NamingTest(unittest.TestCase):
    def test_examples(self):
        people = (((0, 0), (0, 1)), ((0, 2),))
        later = named_days([people, (((0, 0),), ((0, 1), (0, 2)))])[1]
        self.assertEqual(later, ((0, ((0, 0),)), (1, ((0, 1), (0, 2)))))
        paper = names_paper(((4, ((0, 0), (0, 1))), (7, ((0, 2),))), (((0, 0), (0, 1), (0, 2)),), 8)
        self.assertEqual(paper[:2], (((4, ((0, 0), (0, 1), (0, 2))),), 1))

    def test_against_all_dealings(self):
        choice = chance(44)
        ties = 0
        for _ in range(500):
            named, people = some_rows(choice), some_groups(choice)
            fresh = max([number + 1 for number, _ in named] + [0]) + choice.randint(0, 2)
            fewest, best = best_dealings(named, people, fresh)
            ties += len(best) > 1
            rows = named_people(named, people, fresh)
            self.assertTrue(same(rows, rows_of(people, min(best))))
            paper = names_paper(named, people, fresh)
            self.assertTrue(same(paper[:2], (rows, fewest)))
            self.assertTrue(plain_holds(named, people, fresh, paper))
            for dealing in best:
                self.assertTrue(names_hold(named, people, fresh, (rows_of(people, dealing),) + paper[1:]))
            numbers = {number for number, _ in named}
            sure = [(number, group) for number, group in sorted(zip(best[0], people)) if number in numbers
                    and all((number, group) in zip(dealing, people) for dealing in best)]
            self.assertTrue(same(sure_names(named, people), tuple(sure)))
            self.assertTrue(same(changed_records(named, rows), changes(named, rows)))
        self.assertGreater(ties, 100)

    def test_changed_papers(self):
        choice = chance(441)
        right = 0
        for _ in range(120):
            named, people = some_rows(choice, 6), some_groups(choice, 6)
            fresh = max([number + 1 for number, _ in named] + [0])
            paper = names_paper(named, people, fresh)
            values = changed_values(paper, choice, 25)
            values += [(rows_of(people, dealing), len(changes(named, rows_of(people, dealing)))) + paper[2:]
                       for dealing in itertools.islice(dealings(named, people, fresh), 6)]
            for value in values:
                told = plain_holds(named, people, fresh, value)
                right += told
                self.assertTrue(same(names_hold(named, people, fresh, value), told))
        self.assertGreater(right, 100)

    def test_numbers_are_dealt_to_those_that_share_alone(self):
        named, people = ((3, ((0, 0),)), (5, ((0, 1),))), (((0, 0),), ((0, 2),))
        self.assertTrue(names_hold(named, people, 6, (((3, people[0]), (6, people[1])), 0, (1, 0), (0, 0))))
        for rows in [((3, people[0]), (5, people[1])), ((3, people[0]), (7, people[1])), ((3, people[0]), (4, people[1])),
                     ((6, people[0]), (7, people[1])), ((5, people[0]), (6, people[1]))]:
            for changed in (0, 1):
                self.assertFalse(names_hold(named, people, 6, (rows, changed, (1, 0), (0, 0))))

    def test_joined_and_parted_groups(self):
        a, b, c = (0, 0), (0, 1), (0, 2)
        named = ((3, (a, b)), (5, (c,)))
        self.assertEqual(named_people(named, ((a, b, c),), 9), ((3, (a, b, c)),))
        self.assertEqual(named_people(named, ((a,), (b,), (c,)), 9), ((3, (a,)), (5, (c,)), (9, (b,))))
        self.assertEqual(named_people(named, (((7, 7),),), 9), ((9, ((7, 7),)),))
        self.assertEqual(named_people((), (), 0), ())
        self.assertEqual(named_people(named, (), 6), ())
        # The first group is dealt the least number, though both numbers would do.
        named = ((3, (a, c)), (5, (b, (0, 3))))
        self.assertEqual(named_people(named, ((a, b), (c, (0, 3))), 9), ((3, (a, b)), (5, (c, (0, 3)))))
        # It shares as much with number 3, but the other group can be dealt 3 alone.
        named = ((3, (a, (0, 4))), (5, (b,)))
        self.assertEqual(named_people(named, ((a, b), ((0, 4),)), 9), ((3, ((0, 4),)), (5, (a, b))))
        # As few change with a fresh number, but an elder one goes ahead.
        named = ((3, (a, b)),)
        self.assertEqual(named_people(named, ((a,), (b,)), 4), ((3, (a,)), (4, (b,))))

    def test_groups_that_stay_keep_their_numbers(self):
        choice = chance(442)
        for _ in range(200):
            named, people = some_rows(choice), some_groups(choice)
            rows = dict((group, number) for number, group in named_people(named, people, 99))
            for number, group in named:
                if group in rows:
                    self.assertEqual(rows[group], number)

    def test_days(self):
        choice = chance(46)
        for _ in range(150):
            days = [some_groups(choice) for _ in range(choice.randint(0, 4))]
            told = named_days(days)
            self.assertEqual(len(told), len(days))
            self.assertTrue(same(told, named_days(tuple(days))))
            fresh, rows = 0, ()
            for people, later in zip(days, told):
                self.assertTrue(same(later, named_people(rows, people, fresh)))
                rows = later
                fresh = max([fresh] + [number + 1 for number, _ in rows])
            for number in range(fresh):
                found = days_of(days, number)
                expected = [(day, group) for day, rows in enumerate(told) for mine, group in rows if mine == number]
                self.assertTrue(same(found, tuple(expected)))
                self.assertEqual([day for day, _ in found], list(range(found[0][0], found[-1][0] + 1)))
                for (_, one), (_, other) in zip(found, found[1:]):
                    self.assertTrue(set(one) & set(other))
            for number in (fresh, -1, True, None, "0", (0,)):
                keeps(self, InvalidIndex, -1, days_of, days, number)

    def test_no_rows_of_days_have_fewer_changes(self):
        names = [(0, 0), (0, 1), (1, 0)]
        every = [tuple(sorted(tuple(names[at] for at in group) for group in groups)) for groups in partitions(3)]
        for days in itertools.product(every, repeat=3):
            told = named_days(days)
            sums = sum(len(changes(one, other)) for one, other in zip(told, told[1:]))
            best = None
            ways = [range(3 * at + len(people)) for at, people in enumerate(days)]
            first = rows_of(days[0], range(len(days[0])))
            for second in itertools.permutations(ways[1][:6], len(days[1])):
                mid = rows_of(days[1], second)
                for third in itertools.permutations([n for n in range(6) if n in second or n >= len(days[0])], len(days[2])):
                    here = len(changes(first, mid)) + len(changes(mid, rows_of(days[2], third)))
                    best = here if best is None else min(best, here)
            self.assertLessEqual(sums, best)

    def test_many_records(self):
        names = [(house, number) for house in range(6) for number in range(10)]
        alone = tuple((name,) for name in names)
        named = tuple(enumerate(alone))
        self.assertEqual(named_people(named, alone, 60), named)
        self.assertEqual(len(sure_names(named, alone)), 60)

    def test_wrong_rows(self):
        first = (3, ((0, 0),))
        wrong = [(3, ((0, 1),)), (2, ((0, 1),)), (4, ((0, 0),)), (4, ()), (4, ((0, 2), (0, 1))), (4, ((0, 1), (0, 1))),
                 (4, [(0, 1)]), [4, ((0, 1),)], (4, ([0, 1],)), (True, ((0, 1),)), (4,), (4, ((0, 1),), 0), None, 3,
                 (4, ((0, True),)), (-1, ((0, 1),)), ("4", ((0, 1),)), (4, ((0, 1), (1,)))]
        for row in wrong:
            value = (first, row, None)
            keeps(self, InvalidNames, 1, named_people, value, None, None)
            keeps(self, InvalidNames, 1, names_paper, value, None, None)
            keeps(self, InvalidNames, 1, names_hold, value, None, None, None)
            keeps(self, InvalidNames, 1, sure_names, value, None)
            keeps(self, InvalidNames, 1, changed_records, value, None)
            keeps(self, InvalidNames, 1, changed_records, (first,), value)
        for value in odd_values():
            fault = rows_fault(value)
            if fault is not None:
                keeps(self, InvalidNames, fault, named_people, value, None, None)
                keeps(self, InvalidNames, fault, names_hold, value, None, None, None)
                keeps(self, InvalidNames, fault, changed_records, (), value)
        keeps(self, InvalidNames, -1, named_people, [first], (), 4)

    def test_wrong_groups_and_numbers(self):
        for people in odd_values() + [(((0, 0),), ((0, 0), (0, 1))), (((0, 1),), ((0, 0),)), (((0, 0),), ()),
                                      (((0, 0), (0, 0)),), (((0, 0), (0, 1)), ((0, 1),))]:
            if not are_groups(people):
                keeps(self, InvalidPeople, -1, named_people, (), people, None)
                keeps(self, InvalidPeople, -1, names_paper, (), people, None)
                keeps(self, InvalidPeople, -1, names_hold, (), people, None, None)
                keeps(self, InvalidPeople, -1, sure_names, (), people)
                keeps(self, InvalidPeople, -1, named_days, [(), people])
                keeps(self, InvalidPeople, -1, days_of, [(), people], None)
        for days in (None, 3, "ab", True, Likes(1, (), ())):
            keeps(self, InvalidPeople, -1, named_days, days)
            keeps(self, InvalidPeople, -1, days_of, days, None)
        named = ((3, ((0, 0),)),)
        for fresh in (3, 0, -1, True, None, "9", (9,)):
            keeps(self, InvalidSize, "fresh", named_people, named, (), fresh)
            keeps(self, InvalidSize, "fresh", names_paper, named, (), fresh)
            keeps(self, InvalidSize, "fresh", names_hold, named, (), fresh, None)
        keeps(self, InvalidSize, "fresh", named_people, (), (), -1)
        self.assertEqual(named_people((), (((0, 0),),), 0), ((0, ((0, 0),)),))

    def test_odd_values_and_ways(self):
        choice = chance(4444)
        for _ in range(10):
            named, people = some_rows(choice), some_groups(choice)
            check_ways(self, named_people, (named, people, 30))
            check_ways(self, names_paper, (named, people, 30))
            check_ways(self, names_hold, (named, people, 30, names_paper(named, people, 30)))
            check_ways(self, sure_names, (named, people))
            check_ways(self, changed_records, (named, named_people(named, people, 30)))
            days = (people, some_groups(choice))
            self.assertTrue(same(named_days(list(days)), named_days(days)))
            check_ways(self, named_days, (days,))
            check_ways(self, days_of, (days, 0))
            for value in odd_values():
                told = plain_holds(named, people, 30, value)
                self.assertTrue(same(names_hold(named, people, 30, value), told))
                check_ways(self, names_hold, (named, people, 30, value))
                paper = names_paper(named, people, 30)
                for at in range(4):
                    value_at = paper[:at] + (value,) + paper[at + 1:]
                    self.assertTrue(same(names_hold(named, people, 30, value_at), plain_holds(named, people, 30, value_at)))
        keeps(self, InvalidPeople, -1, named_people, (), in_lists((((0, 0),),)), 0)


if __name__ == "__main__":
    unittest.main()
