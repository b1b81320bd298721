"""[24] to [26]: links, bars, people."""

import itertools
import unittest

from helpers import chance, check_ways, in_lists, keeps, odd_values, same
from webs import partitions
from whoiswho.errors import InvalidBars, InvalidIndex, InvalidLinks, InvalidPeople, InvalidSize
from whoiswho.people import best_partition, first_weight, link_fates, link_order, link_pieces, people_above, rule_people

WEB = [link_fates, rule_people, best_partition]


def some_case(choice, most, spread=3):
    many = choice.randint(0, most)
    names = tuple(sorted(choice.sample([(house, number) for house in range(4) for number in range(20)], many)))
    pairs = list(itertools.combinations(names, 2))
    links = [(choice.randint(-spread, spread),) + pair for pair in pairs if choice.random() < 0.5]
    bars = [pair for pair in pairs if choice.random() < 0.2]
    choice.shuffle(links)
    choice.shuffle(bars)
    return names, tuple(links), tuple(bars)


def plain_run(names, links, bars):
    """(fates, groups behind each link), by going through everything."""
    groups = [frozenset([name]) for name in names]
    fates, stages = [], []
    for _, one, other in sorted(links, key=lambda link: (-link[0], link[1:])):
        a = [group for group in groups if one in group][0]
        b = [group for group in groups if other in group][0]
        if a == b:
            fates.append("in")
        elif any((x in a and y in b) or (x in b and y in a) for x, y in bars):
            fates.append("no")
        else:
            fates.append("join")
            groups = [group for group in groups if group not in (a, b)] + [a | b]
        stages.append(groups)
    return tuple(fates), stages, form(groups)


def form(groups):
    return tuple(sorted(tuple(sorted(group)) for group in groups))


class PeopleTest(unittest.TestCase):
    def test_example(self):
        names, links = [(0, 0), (0, 1), (0, 2)], [(5, (0, 0), (0, 1)), (9, (0, 1), (0, 2))]
        bars = [((0, 0), (0, 2))]
        self.assertEqual(link_fates(names, links, bars), ("join", "no"))
        self.assertEqual(rule_people(names, links, bars), (((0, 0),), ((0, 1), (0, 2))))
        self.assertEqual(link_order(names, links), ((9, (0, 1), (0, 2)), (5, (0, 0), (0, 1))))
        self.assertEqual(link_pieces(names, links), (((0, 0), (0, 1), (0, 2)),))
        self.assertEqual(best_partition(names, links, bars), (((0, 0),), ((0, 1), (0, 2))))

    def test_nothing(self):
        self.assertEqual([function((), (), ()) for function in WEB], [(), (), ()])
        self.assertEqual((link_order((), ()), link_pieces((), ())), ((), ()))
        self.assertEqual(people_above((), (), (), 0), ())

    def test_against_plain_ways(self):
        choice = chance(24)
        for _ in range(250):
            names, links, bars = some_case(choice, 9)
            fates, stages, people = plain_run(names, links, bars)
            ordered = tuple(sorted(links, key=lambda link: (-link[0], link[1:])))
            self.assertTrue(same(link_order(names, links), ordered))
            self.assertTrue(same(link_fates(names, links, bars), fates))
            self.assertTrue(same(rule_people(names, links, bars), people))
            self.assertTrue(same(link_pieces(names, links), plain_run(names, links, ())[2]))
            for one in names:
                for other in names:
                    first = None
                    for link, groups in zip(ordered, stages):
                        if first is None and one != other and any(one in group and other in group for group in groups):
                            first = link[0]
                    self.assertTrue(same(first_weight(names, links, bars, one, other), first))
                    for least in (-4, 0, 3):
                        above = people_above(names, links, bars, least)
                        one_person = any(one in group and other in group for group in above)
                        self.assertEqual(one_person, one == other or (first is not None and first >= least))
            for least in range(-4, 5):
                heavy = [link for link in links if link[0] >= least]
                self.assertTrue(same(people_above(names, links, bars, least), plain_run(names, heavy, bars)[2]))

    def test_it_holds(self):
        choice = chance(241)
        for _ in range(100):
            names, links, bars = some_case(choice, 8)
            people = rule_people(names, links, bars)
            ranks = sorted({link[0] for link in links})
            other = [(ranks.index(weight) * 7 - 40, one, two) for weight, one, two in links]
            self.assertEqual(rule_people(names, other, bars), people)
            self.assertEqual(link_fates(names, other, bars), link_fates(names, links, bars))
            parts = ()
            for piece in link_pieces(names, links):
                own = [link for link in links if link[1] in piece]
                parts += rule_people(piece, own, [bar for bar in bars if bar[0] in piece and bar[1] in piece])
            self.assertEqual(tuple(sorted(parts)), people)

    def test_best_partition_is_the_rule(self):
        choice = chance(26)
        for _ in range(120):
            names, links, bars = some_case(choice, 6 if choice.random() < 0.9 else 7)
            ordered = link_order(names, links)
            rows = []
            for places in partitions(len(names)):
                parts = form([[names[at] for at in group] for group in places])
                home = {name: group for group in parts for name in group}
                if all(home[one] != home[other] for one, other in bars):
                    rows.append(([int(home[one] == home[other]) for _, one, other in ordered], len(parts), parts))
            best = max(row[:2] for row in rows)
            self.assertEqual([row[2] for row in rows if row[:2] == best], [best_partition(names, links, bars)])
            self.assertTrue(same(best_partition(names, links, bars), rule_people(names, links, bars)))

    def test_sixty_names(self):
        choice = chance(60)
        names = tuple((house, number) for house in range(6) for number in range(10))
        pairs = list(itertools.combinations(names, 2))
        links = [(choice.randint(-10 ** 6, 10 ** 6),) + pair for pair in choice.sample(pairs, 200)]
        bars = choice.sample(pairs, 200)
        fates, _, people = plain_run(names, links, bars)
        self.assertEqual(link_fates(names, links, bars), fates)
        self.assertEqual(rule_people(names, links, bars), people)

    def test_wrong_names(self):
        for name in [(0, 1), (0, 0), (0,), (0, True), (0, -1), None, 3, "01", ((0, 2),), (1, 1, 1)]:
            for function in WEB:
                keeps(self, InvalidPeople, 2, function, [(0, 0), (0, 1), name, None], None, None)
            keeps(self, InvalidPeople, 2, link_order, [(0, 0), (0, 1), name], None)
            keeps(self, InvalidPeople, 2, link_pieces, [(0, 0), (0, 1), name], None)
            keeps(self, InvalidPeople, 2, first_weight, [(0, 0), (0, 1), name], None, None, None, None)
            keeps(self, InvalidPeople, 2, people_above, [(0, 0), (0, 1), name], None, None, None)
        for names in ([(0, 1), (0, 1)], [(0, 1), (0, 0)], [[3, 3], (0, 5), None]):
            keeps(self, InvalidPeople, 1, link_order, names, None)
        for names in (None, 3, "ab", True):
            for function in WEB:
                keeps(self, InvalidPeople, -1, function, names, None, None)

    def test_wrong_links_and_bars(self):
        names = [(0, 0), (0, 1), (1, 0)]
        first = (1, (0, 0), (0, 1))
        for link in [(1, (0, 1), (0, 0)), (1, (0, 0), (0, 0)), (1, (0, 0), (0, 2)), (True, (0, 0), (1, 0)),
                     (None, (0, 0), (1, 0)), ("1", (0, 0), (1, 0)), (1, (0, 0)), (1, (0, 0), (1, 0), 0), None, 3, (2, (0, 0),
                     (0, 1)), (1, (0, False), (1, 0)), (1, None, (1, 0)), (1, (0, 0), [0, 0, 1]),
                     (1, (0, 0), None), (1, (0, 0), (1, False)), (1, (0, 7), (1, 0)), (1, (0, 0), 3)]:
            for function in WEB:
                keeps(self, InvalidLinks, 1, function, names, [first, link, None], None)
            keeps(self, InvalidLinks, 1, link_order, names, [first, link])
            keeps(self, InvalidLinks, 1, link_pieces, names, [first, link])
            bar = link[1:] if isinstance(link, tuple) else link
            if bar != ((0, 0), (1, 0)):
                for function in WEB:
                    keeps(self, InvalidBars, 1, function, names, [first], [((0, 0), (0, 1)), bar, None])
        for value in (None, 3, "ab", True):
            for function in WEB:
                keeps(self, InvalidLinks, -1, function, names, value, None)
                keeps(self, InvalidBars, -1, function, names, [first], value)

    def test_other_errors(self):
        names, links = [(0, 0), (0, 1)], [(5, (0, 0), (0, 1))]
        for name in [(0, 2), None, (0,), (0, False), "00", [0], ((0, 0),), 3]:
            keeps(self, InvalidIndex, 0, first_weight, names, links, [], name, name)
            keeps(self, InvalidIndex, 1, first_weight, names, links, [], (0, 0), name)
        self.assertEqual(first_weight(names, links, [], [0, 1], [0, 0]), 5)
        self.assertIsNone(first_weight(names, links, [], (0, 1), [0, 1]))
        for least in (True, None, "0", (0,)):
            keeps(self, InvalidSize, "least", people_above, names, links, [], least)
        eight = [(0, number) for number in range(8)]
        keeps(self, InvalidSize, "names", best_partition, eight, [], [])
        keeps(self, InvalidLinks, 0, best_partition, eight, [None], None)
        keeps(self, InvalidBars, 0, best_partition, eight, [], [None])
        self.assertEqual(best_partition(eight[:7], [], []), tuple((name,) for name in eight[:7]))

    def test_odd_values_and_ways(self):
        choice = chance(2424)
        for _ in range(10):
            names, links, bars = some_case(choice, 5)
            for function in WEB:
                check_ways(self, function, (names, links, bars), lists=(0, 1, 2))
            check_ways(self, link_order, (names, links), lists=(0, 1))
            check_ways(self, link_pieces, (names, links), lists=(0, 1))
            check_ways(self, people_above, (names, links, bars, 0), lists=(0, 1, 2))
            if names:
                check_ways(self, first_weight, (names, links, bars, names[0], names[-1]), lists=(0, 1, 2, 3, 4))
        names, links = ((0, 0), (0, 1)), ((5, (0, 0), (0, 1)),)
        for value in odd_values():
            for function in WEB:
                check_ways(self, function, (value, links, ()))
                check_ways(self, function, (names, value, ()))
                check_ways(self, function, (names, links, value))
            check_ways(self, people_above, (names, links, (), value))
            check_ways(self, first_weight, (names, links, (), value, (0, 0)))
            check_ways(self, first_weight, (names, links, (), (0, 0), value))
        self.assertEqual(in_lists(names), [[0, 0], [0, 1]])


if __name__ == "__main__":
    unittest.main()
