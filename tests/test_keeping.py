"""[30] to [33]: persons kept along as names, links and bars come and go."""

import copy
import itertools
import unittest

from helpers import chance, check_ways, has_list, in_lists, keeps, odd_values, same
from test_people import form, plain_run, some_case
from whoiswho.errors import InvalidBars, InvalidLinks, InvalidPeople, InvalidSize, Refused
from whoiswho.keeping import Keeping, turning_links
from whoiswho.people import link_fates, rule_people

NAMES = ((0, 0), (0, 1), (1, 0), (2, 5))


def order(link):
    return (-link[0],) + tuple(link[1:])


def piece(names, links, name):
    lot = {name}
    while True:
        more = {end for link in links for end in link[1:] if set(link[1:]) & lot} - lot
        if not more:
            return lot
        lot |= more


def groups_behind(web, place, lot):
    """The groups of a lot of names behind all links up to a place in the order."""
    names, links, bars = web
    people = plain_run(names, [link for link in links if order(link) <= place], bars)[2]
    return sorted(group for group in people if set(group) <= lot)


def plain_turn(before, after):
    """The turn of a change of links or bars, as [31] and [32] tell it, or None."""
    names, links, bars = before
    fates, stages, people = plain_run(*before)
    ordered = sorted(links, key=order)
    put = [link for link in after[1] if link not in links]
    gone = [link for link in links if link not in after[1]]
    if put:
        return put[0]
    if gone:
        return gone[0] if fates[ordered.index(gone[0])] == "join" else None
    changed = [bar for bar in after[2] if bar not in bars]
    if changed:
        for link, groups in zip(ordered, stages):
            if any(set(changed[0]) <= group for group in groups):
                return link
        return None
    for at, link in enumerate(ordered):
        groups = stages[at]
        ends = [group for group in groups if set(link[1:]) & group]
        if fates[at] == "no" and not any(set(bar) & ends[0] and set(bar) & ends[1] for bar in after[2]):
            return link
    return None


def plain_anew(before, after):
    """How many fates a change has reckoned anew."""
    turn = plain_turn(before, after)
    if turn is None:
        return 0
    both = sorted(set(before[1]) | set(after[1]), key=order)
    lot = piece(before[0], both, turn[1])
    many = 0
    for link in both:
        if order(link) >= order(turn) and link[1] in lot:
            many += link in after[1]
            if groups_behind(before, order(link), lot) == groups_behind(after, order(link), lot):
                break
    return many


class KeepingTest(unittest.TestCase):
    def check(self, kept, web):
        names, links, bars = web
        fates, _, people = plain_run(names, links, bars)
        self.assertTrue(same(kept.told_names(), tuple(sorted(names))))
        self.assertTrue(same(kept.told_links(), tuple(sorted(links, key=order))))
        self.assertTrue(same(kept.told_bars(), tuple(sorted(bars))))
        self.assertTrue(same(kept.told_fates(), fates))
        self.assertTrue(same(kept.told_people(), people))

    def test_examples(self):
        names, links, bars = turning_links(4)
        kept = Keeping(names, links, bars)
        self.assertEqual(kept.told_fates(), ("join", "no", "join"))
        self.assertEqual(kept.take_link((0, 0), (0, 1)), 2)
        self.assertEqual(kept.told_fates(), ("join", "no"))
        self.assertEqual(kept.put_bar((0, 0), (0, 1)), 0)
        kept = Keeping((), (), ())
        self.check(kept, ((), (), ()))
        self.assertIsNone(kept.put_name([3, 4]))
        self.check(kept, (((3, 4),), (), ()))
        self.assertIsNone(kept.take_name((3, 4)))
        self.check(kept, ((), (), ()))

    def some_change(self, choice, kept, web):
        """One change, done; (how many were told, the web behind it)."""
        names, links, bars = web
        free = [pair for pair in itertools.combinations(sorted(names), 2) if pair not in [link[1:] for link in links]]
        unbarred = [pair for pair in itertools.combinations(sorted(names), 2) if pair not in bars]
        kind = choice.choice(["put_link", "take_link", "put_bar", "take_bar", "put_name", "take_name"])
        if kind == "put_link" and free:
            link = (choice.randint(-3, 6),) + choice.choice(free)
            return kept.put_link(*link), (names, links + (link,), bars)
        if kind == "take_link" and links:
            link = choice.choice(links)
            return kept.take_link(*link[1:]), (names, tuple(other for other in links if other != link), bars)
        if kind == "put_bar" and unbarred:
            bar = choice.choice(unbarred)
            return kept.put_bar(*bar), (names, links, bars + (bar,))
        if kind == "take_bar" and bars:
            bar = choice.choice(bars)
            return kept.take_bar(*bar), (names, links, tuple(other for other in bars if other != bar))
        if kind == "put_name" and len(names) < 8:
            name = choice.choice([(house, number) for house in range(4) for number in range(9)])
            if name not in names:
                return kept.put_name(name), (names + (name,), links, bars)
        if kind == "take_name":
            idle = [name for name in names if not any(name in row for row in [link[1:] for link in links] + list(bars))]
            if idle:
                name = choice.choice(idle)
                return kept.take_name(name), (tuple(other for other in names if other != name), links, bars)
        return None, web

    def test_rows_of_changes(self):
        choice = chance(30)
        told = {}
        for _ in range(60):
            web = some_case(choice, 7)
            kept = Keeping(*web)
            self.check(kept, web)
            for _ in range(20):
                many, behind = self.some_change(choice, kept, web)
                self.check(kept, behind)
                if web[0] == behind[0] and web != behind:
                    self.assertTrue(same(many, plain_anew(web, behind)), (web, behind))
                    told[many] = told.get(many, 0) + 1
                else:
                    self.assertIsNone(many)
                web = behind
        for many in range(5):
            self.assertGreater(told[many], 5)

    def test_what_turns_nothing(self):
        choice = chance(31)
        for _ in range(300):
            web = some_case(choice, 6)
            names, links, bars = web
            before, people = dict(zip(sorted(links, key=order), link_fates(*web))), rule_people(*web)
            home = {name: group for group in people for name in group}
            for link in links:
                kept = Keeping(*web)
                many = kept.take_link(*link[1:])
                self.assertEqual(many == 0 and before[link] != "join", before[link] != "join")
                if before[link] != "join":
                    self.assertEqual(kept.told_people(), people)
                    self.assertEqual(kept.told_fates(), tuple(before[row] for row in kept.told_links()))
                    self.assertEqual(kept.put_link(*link), 1)
            for pair in itertools.combinations(names, 2):
                kept = Keeping(*web)
                if pair in bars:
                    many = kept.take_bar(*pair)
                    turned = kept.told_fates() != tuple(before.values())
                    self.assertEqual(many > 0, turned)
                else:
                    many = kept.put_bar(*pair)
                    self.assertEqual(many > 0, home[pair[0]] == home[pair[1]])
                    self.assertEqual(many > 0, kept.told_fates() != tuple(before.values()))

    def test_many_names(self):
        choice = chance(32)
        names = tuple((house, number) for house in range(6) for number in range(10))
        pairs = list(itertools.combinations(names, 2))
        links = tuple((choice.randint(-10 ** 6, 10 ** 6),) + pair for pair in choice.sample(pairs, 200))
        bars = tuple(choice.sample(pairs, 200))
        kept = Keeping(names, links, bars)
        for _ in range(30):
            many, (names, links, bars) = self.some_change(choice, kept, (names, links, bars))
            self.assertEqual(kept.told_fates(), link_fates(names, links, bars))
            self.assertEqual(kept.told_people(), rule_people(names, links, bars))

    def test_turning_links(self):
        self.assertTrue(same(turning_links(2), (((0, 0), (0, 1)), ((1, (0, 0), (0, 1)),), ())))
        self.assertTrue(same(turning_links(3), (((0, 0), (0, 1), (0, 2)), ((2, (0, 0), (0, 1)), (1, (0, 1), (0, 2))),
                                                (((0, 0), (0, 2)),))))
        for many in range(2, 61):
            names, links, bars = turning_links(many)
            self.assertEqual((len(names), len(links), len(bars)), (many, many - 1, many - 2))
            kept = Keeping(names, links, bars)
            turns = tuple("join" if at % 2 == 0 else "no" for at in range(many - 1))
            self.assertEqual(kept.told_fates(), turns)
            self.assertEqual(kept.take_link((0, 0), (0, 1)), many - 2)
            self.assertEqual(kept.told_fates(), turns[:many - 2])
        for many in (1, 61, 0, -1, True, None, "2", (2,), 10 ** 9):
            keeps(self, InvalidSize, "many", turning_links, many)
        for value in odd_values():
            check_ways(self, turning_links, (value,))

    def test_errors_at_first(self):
        names, first = [(0, 0), (0, 1)], (1, (0, 0), (0, 1))
        keeps(self, InvalidPeople, 1, Keeping, [(0, 0), (0, 0)], None, None)
        keeps(self, InvalidPeople, -1, Keeping, None, None, None)
        keeps(self, InvalidLinks, 1, Keeping, names, [first, first], None)
        keeps(self, InvalidLinks, -1, Keeping, names, "a", None)
        keeps(self, InvalidBars, 0, Keeping, names, [first], [((0, 1), (0, 0))])
        keeps(self, InvalidBars, -1, Keeping, names, [first], 7)

    def unchanged(self, kept, error, method, *args):
        before = copy.deepcopy(vars(kept))
        keeps(self, error, -1, getattr(kept, method), *args)
        self.assertTrue(same(list(before.values()), list(vars(kept).values())))

    def test_errors_of_changes(self):
        links, bars = ((3, (0, 0), (0, 1)), (2, (0, 1), (1, 0))), (((0, 0), (1, 0)),)
        kept = Keeping(NAMES, links, bars)
        for name in odd_values() + [(0, True), (0,), (-1, 0), [(0, 0)]]:
            if not (type(name) in (list, tuple) and len(name) == 2 and all(type(part) is int and part >= 0 for part in name)):
                self.unchanged(kept, InvalidPeople, "put_name", name)
            if not (type(name) in (list, tuple) and tuple(name) in NAMES) or same(name, (True, 0)) or same(name, (0, False)):
                self.unchanged(kept, InvalidPeople, "take_name", name)
        self.unchanged(kept, Refused, "put_name", [0, 1])
        self.unchanged(kept, InvalidPeople, "take_name", (7, 7))
        for name in NAMES[:3]:
            self.unchanged(kept, Refused, "take_name", name)
        for pair in [((0, 1), (0, 0)), ((0, 0), (0, 0)), ((0, 0), (9, 9)), ((0, 0), None), ("ab", (0, 1)), ((0, False), (1, 0)),
                     ((0, 0), 3)]:
            self.unchanged(kept, InvalidLinks, "put_link", 1, *pair)
            self.unchanged(kept, InvalidLinks, "take_link", *pair)
            self.unchanged(kept, InvalidBars, "put_bar", *pair)
            self.unchanged(kept, InvalidBars, "take_bar", *pair)
        for weight in (True, None, "1", (1,)):
            self.unchanged(kept, InvalidLinks, "put_link", weight, (0, 0), (1, 0))
            self.unchanged(kept, InvalidLinks, "put_link", weight, (0, 0), (0, 1))
        self.unchanged(kept, Refused, "put_link", 5, (0, 0), (0, 1))
        self.unchanged(kept, InvalidLinks, "take_link", (0, 0), (1, 0))
        self.unchanged(kept, Refused, "put_bar", (0, 0), [1, 0])
        self.unchanged(kept, InvalidBars, "take_bar", (0, 0), (0, 1))

    def test_arguments_in_several_ways(self):
        choice = chance(33)
        for _ in range(20):
            web = some_case(choice, 5)
            lists = in_lists(web)
            one, other = Keeping(*web), Keeping(bars=lists[2], links=lists[1], names=lists[0])
            for changed in lists:
                changed.append(7)
            for told in ("told_names", "told_links", "told_bars", "told_fates", "told_people"):
                self.assertTrue(same(getattr(one, told)(), getattr(other, told)()))
                self.assertFalse(has_list(getattr(other, told)()))
        kept = Keeping(NAMES, (), ())
        self.assertEqual(kept.put_link(other=[0, 1], one=[0, 0], weight=4), 1)
        self.assertEqual(kept.put_bar(other=[1, 0], one=[0, 0]), 0)
        self.assertEqual(kept.take_bar(other=[1, 0], one=[0, 0]), 0)
        self.assertEqual(kept.take_link(other=[0, 1], one=[0, 0]), 0)
        kept.put_name(name=[8, 8])
        kept.take_name(name=[8, 8])
        self.check(kept, (NAMES, (), ()))
        self.assertEqual(form([NAMES[:1], NAMES[1:2], NAMES[2:3], NAMES[3:]]), kept.told_people())
        with self.assertRaises(TypeError):
            iter(kept)
        with self.assertRaises(TypeError):
            len(kept)


if __name__ == "__main__":
    unittest.main()
