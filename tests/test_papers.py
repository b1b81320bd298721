"""[27] to [29]: papers of persons, and of whether two names are one."""

import itertools
import unittest

from helpers import chance, changed_values, check_ways, has_list, keeps, odd_values, same
from test_people import form, plain_run, some_case
from webs import partitions
from whoiswho.errors import InvalidBars, InvalidIndex, InvalidLinks, InvalidPeople
from whoiswho.papers import pair_holds, pair_paper, people_hold, people_paper
from whoiswho.people import link_order, link_pieces, rule_people

NAMES = ((0, 0), (0, 1), (0, 2), (0, 3))
LINKS = ((9, (0, 0), (0, 1)), (9, (0, 1), (0, 2)), (5, (0, 2), (0, 3)))
BARS = (((0, 1), (0, 3)),)
PAPER = ((((0, 0), (0, 1), (0, 2)), ((0, 3),)),
         (((5, (0, 2), (0, 3)), ((0, 1), (0, 3)), ((0, 2), (0, 1)), ((0, 3),)),))


def plain_name(value):
    return type(value) is tuple and len(value) == 2 and all(type(part) is int and part >= 0 for part in value)


def plain_people(names, value):
    if type(value) is not tuple or not all(type(group) is tuple and all(map(plain_name, group)) for group in value):
        return False
    return value == form(value) and all(value) and sorted(itertools.chain(*value)) == sorted(names)


def plain_chain(value, links, people):
    if type(value) is not tuple or not value or not all(map(plain_name, value)) or len(set(value)) < len(value):
        return False
    return all(any(set(link[1:]) == set(pair) for link in links) and any(set(pair) <= set(group) for group in people)
               for pair in zip(value, value[1:]))


def tied(links, group):
    lot = {group[0]}
    for _ in group:
        lot |= {end for link in links if set(link[1:]) <= set(group) and set(link[1:]) & lot for end in link[1:]}
    return lot == set(group)


def plain_holds(names, links, bars, value):
    """The three signs, as [27] and [28] tell them."""
    if type(value) is not tuple or len(value) != 2 or not plain_people(names, value[0]) or type(value[1]) is not tuple:
        return False
    people, rows = value
    if not all(tied(links, group) for group in people):
        return False
    if any(set(bar) <= set(group) for bar in bars for group in people):
        return False
    ordered = sorted(links, key=lambda link: (-link[0], link[1:]))
    between = [link for link in ordered if not any(set(link[1:]) <= set(group) for group in people)]
    if len(rows) != len(between):
        return False
    for row, link in zip(rows, between):
        if type(row) is not tuple or len(row) != 4 or not same(row[0], link) or not any(same(row[1], bar) for bar in bars):
            return False
        ahead = ordered[:ordered.index(link)]
        if not plain_chain(row[2], ahead, people) or not plain_chain(row[3], ahead, people):
            return False
        if row[2][0] != link[1] or row[3][0] != link[2] or {row[2][-1], row[3][-1]} != set(row[1]):
            return False
    return True


def plain_pair(names, links, bars, one, other, value):
    piece = [lot for lot in link_pieces(names, links) if one in lot][0]
    if type(value) is not tuple or not value or type(value[0]) is not str:
        return False
    if value[0] == "pieces" and len(value) == 2:
        lot = value[1]
        return type(lot) is tuple and all(map(plain_name, lot)) and list(lot) == sorted(set(lot)) \
            and set(lot) <= set(names) and one in lot and other not in lot \
            and all((link[1] in lot) == (link[2] in lot) for link in links)
    if other not in piece:
        return False
    along = [link for link in links if link[1] in piece]
    within = [bar for bar in bars if set(bar) <= set(piece)]
    if len(value) < 2 or not plain_holds(piece, along, within, value[1]):
        return False
    people = value[1][0]
    if value[0] == "apart":
        return len(value) == 2 and not any({one, other} <= set(group) for group in people)
    return value[0] == "one" and len(value) == 3 and plain_chain(value[2], along, people) \
        and value[2][0] == one and value[2][-1] == other


def all_chains(links, start):
    """All chains of these links from a name on."""
    ways = [(start,)]
    for way in ways:
        for link in links:
            if way[-1] in link[1:]:
                end = link[2] if link[1] == way[-1] else link[1]
                if end not in way:
                    ways.append(way + (end,))
    return ways


class PapersTest(unittest.TestCase):
    def test_by_hand(self):
        self.assertTrue(same(people_paper(NAMES, LINKS, BARS), PAPER))
        self.assertTrue(people_hold(NAMES, LINKS, BARS, PAPER))
        self.assertEqual(people_paper((), (), ()), ((), ()))
        self.assertTrue(people_hold((), (), (), ((), ())))
        self.assertTrue(same(pair_paper(NAMES, LINKS, BARS, (0, 2), (0, 0)), ("one", PAPER, ((0, 2), (0, 1), (0, 0)))))
        self.assertTrue(same(pair_paper(NAMES, LINKS, BARS, (0, 3), (0, 0)), ("apart", PAPER)))
        self.assertTrue(same(pair_paper(NAMES, LINKS[:2], BARS, (0, 3), (0, 0)), ("pieces", ((0, 3),))))

    def test_chains_begin_at_the_ends_of_the_link(self):
        names = NAMES + ((1, 0),)
        links, bars = LINKS + ((7, (0, 3), (1, 0)),), (((0, 1), (1, 0)),)
        people, rows = people_paper(names, links, bars)
        first, second = ((0, 2), (0, 1)), ((0, 3), (1, 0))
        self.assertEqual(rows, (((5, (0, 2), (0, 3)), bars[0], first, second),))
        for one, other in [(first[1:], second), (first, second[1:]), (second, first), (first[:1], second), (first, second[:1]),
                           (first[::-1], second), (first, second[::-1]), ((), second), (first, ())]:
            self.assertFalse(people_hold(names, links, bars, (people, ((rows[0][:2] + (one, other)),))))

    def test_papers_hold_and_changed_ones_do_as_they_should(self):
        choice = chance(28)
        found = {True: 0, False: 0}
        for _ in range(250):
            names, links, bars = web = some_case(choice, 7)
            paper = people_paper(*web)
            self.assertFalse(has_list(paper))
            self.assertEqual(paper[0], plain_run(*web)[2])
            self.assertTrue(plain_holds(names, links, bars, paper))
            self.assertIs(people_hold(names, links, bars, paper), True)
            for value in changed_values(paper, choice, 15):
                holds = people_hold(names, links, bars, value)
                self.assertIs(holds, bool(plain_holds(names, links, bars, value)), (web, value))
                found[holds] += 1
        self.assertGreater(min(found.values()), 60)

    def test_any_such_rows(self):
        choice = chance(281)
        many = 0
        for _ in range(60):
            names, links, bars = web = some_case(choice, 6)
            people, rows = people_paper(*web)
            ordered = link_order(names, links)
            for at, (link, _, _, _) in enumerate(rows):
                home = {name: group for group in people for name in group}
                ahead = [row for row in ordered[:ordered.index(link)] if home[row[1]] == home[row[2]]]
                for bar in bars:
                    for first in all_chains(ahead, link[1]):
                        for second in all_chains(ahead, link[2]):
                            value = (people, rows[:at] + ((link, bar, first, second),) + rows[at + 1:])
                            right = {first[-1], second[-1]} == set(bar)
                            self.assertIs(people_hold(names, links, bars, value), right)
                            many += right
        self.assertGreater(many, 40)

    def test_no_other_partition_holds(self):
        choice = chance(27)
        for _ in range(40):
            names, links, bars = web = some_case(choice, 5)
            people = rule_people(*web)
            ordered = link_order(names, links)
            for places in partitions(len(names)):
                parts = form([[names[at] for at in group] for group in places])
                home = {name: group for group in parts for name in group}
                rows = []
                for at, link in enumerate(ordered):
                    if home[link[1]] != home[link[2]]:
                        ahead = [row for row in ordered[:at] if home[row[1]] == home[row[2]]]
                        found = [(link, bar, one, other) for bar in bars for one in all_chains(ahead, link[1])
                                 for other in all_chains(ahead, link[2]) if {one[-1], other[-1]} == set(bar)]
                        rows.append(found[0] if found else (link, ((0, 0), (0, 1)), (link[1],), (link[2],)))
                self.assertIs(people_hold(names, links, bars, (parts, tuple(rows))), parts == people)

    def test_two_names(self):
        choice = chance(29)
        words, found = {}, {True: 0, False: 0}
        for _ in range(150):
            names, links, bars = web = some_case(choice, 7)
            people = rule_people(*web)
            papers = []
            for one, other in itertools.permutations(names, 2):
                paper = pair_paper(names, links, bars, one, other)
                papers.append(paper)
                words[paper[0]] = words.get(paper[0], 0) + 1
                self.assertFalse(has_list(paper))
                together = any({one, other} <= set(group) for group in people)
                self.assertEqual(paper[0] == "one", together)
                self.assertEqual(paper[0] == "pieces", not any({one, other} <= set(lot) for lot in link_pieces(names, links)))
                if paper[0] == "pieces":
                    self.assertIn(paper[1], link_pieces(names, links))
                for value in [paper] + papers[-3:] + changed_values(paper, choice, 3):
                    holds = pair_holds(names, links, bars, one, other, value)
                    self.assertIs(holds, bool(plain_pair(names, links, bars, one, other, value)), (web, one, other, value))
                    found[holds] += 1
                    if holds:
                        self.assertEqual(value[0], paper[0])
                self.assertTrue(pair_holds(names, links, bars, one, other, paper))
        self.assertGreater(min(words.values()), 100)
        self.assertGreater(min(found.values()), 300)

    def test_two_names_by_hand(self):
        names = NAMES + ((1, 0), (1, 1))
        links = LINKS + ((2, (0, 0), (0, 2)), (4, (1, 0), (1, 1)))

        def holds(one, other, value):
            return pair_holds(names, links, BARS, one, other, value)
        # Any lot that no link leaves, also of several pieces; any chain, also one by a link behind.
        self.assertTrue(holds((1, 0), (0, 0), ("pieces", ((1, 0), (1, 1)))))
        self.assertTrue(holds((0, 0), (1, 1), ("pieces", NAMES)))
        wide = NAMES + ((1, 0), (1, 1), (2, 0))
        self.assertTrue(pair_holds(wide, links, BARS, (1, 0), (0, 0), ("pieces", ((1, 0), (1, 1), (2, 0)))))
        for value in [("pieces", ((1, 0),)), ("pieces", names), ("pieces", [(1, 0), (1, 1)]), ("pieces", ((1, 1), (1, 0))),
                      ("pieces", NAMES), ("pieces", ()), ("pieces", ((1, 0), (1, 1), (5, 5))), ["pieces", ((1, 0), (1, 1))],
                      ("pieces", ((1, 0), (1, True))), ("piece", ((1, 0), (1, 1))), ("apart", PAPER), ("one", PAPER, ((1, 0),)),
                      ("pieces", ((1, 0), (1, 1)), ())]:
            self.assertFalse(holds((1, 0), (0, 0), value), value)
        for chain in [((0, 0), (0, 2)), ((0, 0), (0, 1), (0, 2))]:
            self.assertTrue(holds((0, 0), (0, 2), ("one", PAPER, chain)))
        for chain in [((0, 2), (0, 0)), ((0, 0), (0, 1)), ((0, 0), (0, 2), (0, 3)), (), [(0, 0), (0, 2)],
                      ((0, 0), (0, 1), (0, 0), (0, 2)), ((0, False), (0, 2)), None, ((0, 0), (0, 3), (0, 2))]:
            self.assertFalse(holds((0, 0), (0, 2), ("one", PAPER, chain)), chain)
        self.assertFalse(holds((0, 0), (0, 2), ("apart", PAPER)))
        self.assertTrue(holds((0, 0), (0, 3), ("apart", PAPER)))
        self.assertFalse(holds((0, 0), (0, 3), ("apart", PAPER, ())))
        self.assertFalse(holds((0, 0), (0, 3), ("one", PAPER, ((0, 0), (0, 2), (0, 3)))))
        # A paper of all names is none of the piece alone.
        whole = people_paper(names, links, BARS)
        self.assertTrue(people_hold(names, links, BARS, whole))
        self.assertFalse(holds((0, 0), (0, 3), ("apart", whole)))

    def test_one_link_or_bar_more(self):
        names, links = NAMES[:3], [(5, (0, 0), (0, 1))]
        bars = [((0, 0), (0, 2))]
        self.assertEqual(pair_paper(names, links, bars, (0, 0), (0, 1))[0], "one")
        self.assertEqual(pair_paper(names, links + [(6, (0, 1), (0, 2))], bars, (0, 0), (0, 1))[0], "apart")
        # A bar more: the link that kept them apart is refused itself.
        links = [(9, NAMES[1], NAMES[2]), (5, NAMES[0], NAMES[1])]
        self.assertEqual(pair_paper(names, links, bars, (0, 0), (0, 1))[0], "apart")
        self.assertEqual(pair_paper(names, links, bars + [(NAMES[1], NAMES[2])], (0, 0), (0, 1))[0], "one")

    def test_errors(self):
        for function, more in ((people_paper, ()), (people_hold, (PAPER,)), (pair_paper, (None, None)),
                               (pair_holds, (None, None, None))):
            keeps(self, InvalidPeople, 1, function, [(0, 0), (0, 0)], None, None, *more)
            keeps(self, InvalidPeople, -1, function, None, None, None, *more)
            keeps(self, InvalidLinks, 1, function, NAMES, [LINKS[0], LINKS[0]], None, *more)
            keeps(self, InvalidBars, 0, function, NAMES, LINKS, [None], *more)
            keeps(self, InvalidBars, -1, function, NAMES, LINKS, 3, *more)
        for function, more in ((pair_paper, ()), (pair_holds, (None,))):
            for name in [(0, 4), None, (0,), (0, False), "00", [0], 3, ((0, 0),)]:
                keeps(self, InvalidIndex, 0, function, NAMES, LINKS, BARS, name, name, *more)
                keeps(self, InvalidIndex, 1, function, NAMES, LINKS, BARS, (0, 0), name, *more)
            keeps(self, InvalidIndex, 1, function, NAMES, LINKS, BARS, (0, 0), [0, 0], *more)

    def test_any_value_and_ways(self):
        for value in odd_values():
            self.assertIs(people_hold(NAMES, LINKS, BARS, value), False)
            self.assertIs(people_hold(NAMES, LINKS, BARS, (PAPER[0], value)), False)
            self.assertIs(people_hold(NAMES, LINKS, BARS, (value, PAPER[1])), False)
            self.assertIs(pair_holds(NAMES, LINKS, BARS, (0, 0), (0, 1), value), False)
            for word in ("one", "apart", "pieces"):
                self.assertIs(pair_holds(NAMES, LINKS, BARS, (0, 0), (0, 1), (word, value)), False)
                self.assertIs(pair_holds(NAMES, LINKS, BARS, (0, 0), (0, 1), (word, PAPER, value)), False)
            check_ways(self, people_hold, (NAMES, LINKS, BARS, (PAPER[0], value)), lists=(0, 1, 2))
        choice = chance(2828)
        for _ in range(20):
            names, links, bars = some_case(choice, 5)
            check_ways(self, people_paper, (names, links, bars), lists=(0, 1, 2))
            paper = people_paper(names, links, bars)
            check_ways(self, people_hold, (names, links, bars, paper), lists=(0, 1, 2))
            if len(names) > 1:
                check_ways(self, pair_paper, (names, links, bars, names[-1], names[0]), lists=(0, 1, 2, 3, 4))
                paper = pair_paper(names, links, bars, names[0], names[1])
                check_ways(self, pair_holds, (names, links, bars, names[0], names[1], paper), lists=(0, 1, 2, 3, 4))


if __name__ == "__main__":
    unittest.main()
