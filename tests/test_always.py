"""[43], what it says of always: where the plain rule is best for all weights."""

import itertools
import unittest

from helpers import chance, changed_values, check_ways, has_list, keeps, odd_values, same
from webs import partitions, plain_loss, some_web
from whoiswho.always import always_holds, always_paper, plain_groups
from whoiswho.best import Likes, likes_loss
from whoiswho.errors import InvalidLinks, InvalidSize, Refused


def hard_web(choice, things, links, bars):
    pairs = list(itertools.combinations(range(things), 2))
    return Likes(things, [(choice.randint(1, 5),) + pair for pair in choice.sample(pairs, min(links, len(pairs)))],
                 [(None,) + pair for pair in choice.sample(pairs, min(bars, len(pairs)))])


def plain_rule(web):
    """[24] over the things, by going through everything."""
    groups = [{thing} for thing in range(web.things)]
    for _, one, other in sorted(web.links, key=lambda link: (-link[0], link[1:])):
        a, b = ([group for group in groups if end in group][0] for end in (one, other))
        if a is not b and not any({low, high} <= a | b for _, low, high in web.bars):
            groups = [group for group in groups if group is not a and group is not b] + [a | b]
    return tuple(sorted(tuple(sorted(group)) for group in groups))


def ties(web, pairs):
    groups = [{thing} for thing in range(web.things)]
    for pair in pairs:
        joined = set().union(*[group for group in groups if set(pair) & group])
        groups = [group for group in groups if not set(pair) & group] + [joined]
    return groups


def exchange_holds(web):
    """What the document tells of least lots that are not let."""
    pairs = [link[1:] for link in web.links]
    lots = [frozenset(lot) for many in range(len(pairs) + 1) for lot in itertools.combinations(pairs, many)]
    let = {lot: not any({one, other} <= group for group in ties(web, lot) for _, one, other in web.bars) for lot in lots}
    barred = [lot for lot in lots if not let[lot] and all(let[lot - {pair}] for pair in lot)]
    return all(not let[(one | other) - {pair}] for one in barred for other in barred if one != other for pair in one & other)


def plain_holds(web, value):
    if type(value) is not tuple or not value or type(value[0]) is not str:
        return False
    if len(value) == 1:
        return value[0] == "always" and exchange_holds(web)
    if len(value) != 3 or value[0] != "weights" or type(value[1]) is not tuple or len(value[1]) != len(web.links):
        return False
    for link, known in zip(value[1], web.links):
        if type(link) is not tuple or len(link) != 3 or not same(link[1:], known[1:]) or type(link[0]) is not int or link[0] < 1:
            return False
    weighed = Likes(web.things, value[1], web.bars)
    if not any(same(value[2], people) for people in partitions(web.things)):
        return False
    loss = plain_loss(weighed, value[2])
    return loss is not None and loss < plain_loss(weighed, plain_rule(weighed))


class AlwaysTest(unittest.TestCase):
    def test_plain_groups(self):
        choice = chance(43)
        for _ in range(200):
            web = some_web(choice, choice.randint(0, 7), 12)
            rows = [(None if choice.random() < 0.5 else 7,) + bar[1:] for bar in web.bars]
            self.assertTrue(same(plain_groups(web), plain_rule(web)))
            self.assertEqual(plain_groups(Likes(web.things, web.links, rows)), plain_groups(web))
        self.assertEqual(plain_groups(Likes(0, (), ())), ())
        # Alike weights: the lesser pair goes ahead.
        self.assertEqual(plain_groups(Likes(3, [(1, 1, 2), (1, 0, 1)], [(None, 0, 2)])), ((0, 1), (2,)))

    def test_by_hand(self):
        self.assertEqual(always_paper(Likes(0, (), ())), ("always",))
        self.assertEqual(always_paper(Likes(3, [(1, 0, 1), (1, 1, 2)], [(None, 0, 2)])), ("always",))
        # A middle link that blocks two others.
        web = Likes(4, [(1, 0, 1), (1, 1, 2), (1, 2, 3)], [(None, 0, 2), (None, 1, 3)])
        paper = always_paper(web)
        self.assertEqual((paper[0], paper[2]), ("weights", ((0, 1), (2, 3))))
        links = ((2, 0, 1), (3, 1, 2), (2, 2, 3))
        self.assertTrue(always_holds(web, ("weights", links, ((0, 1), (2, 3)))))
        self.assertTrue(always_holds(web, ("weights", ((2, 0, 1), (3, 1, 2), (2, 2, 3)), ((0, 1), (2, 3)))))
        self.assertFalse(always_holds(web, ("always",)))
        for value in [("weights", ((2, 0, 1), (4, 1, 2), (2, 2, 3)), ((0, 1), (2, 3))), ("weights", links, ((0, 1), (2,), (3,))),
                      ("weights", links, ((0,), (1, 2), (3,))), ("weights", links, ((0, 1, 2, 3),)), ("weights", links[:2], ((0, 1), (2, 3))),
                      ("weights", links[::-1], ((0, 1), (2, 3))), ("weights", list(links), ((0, 1), (2, 3))),
                      ("weights", links, ((0, 1), [2, 3])), ("weights", links, ((2, 3), (0, 1))), ("weights", links),
                      ("weights", ((2, 0, 1), [3, 1, 2], (2, 2, 3)), ((0, 1), (2, 3))),
                      ("weights", ((2, 0, 1), (3, True, 2), (2, 2, 3)), ((0, 1), (2, 3))), ("always", ()), ["always"],
                      ("weights", ((0, 0, 1), (3, 1, 2), (2, 2, 3)), ((0, 1), (2, 3)))]:
            self.assertFalse(always_holds(web, value), value)

    def test_papers(self):
        choice = chance(431)
        kinds, found = {}, {True: 0, False: 0}
        for _ in range(250):
            web = hard_web(choice, choice.randint(1, 6), choice.randint(0, 7), choice.randint(0, 5))
            paper = always_paper(web)
            kinds[paper[0]] = kinds.get(paper[0], 0) + 1
            self.assertFalse(has_list(paper))
            self.assertIs(always_holds(web, paper), True)
            self.assertTrue(plain_holds(web, paper))
            self.assertEqual(paper == ("always",), exchange_holds(web))
            for value in [("always",)] + changed_values(paper, choice, 10):
                holds = always_holds(web, value)
                self.assertIs(holds, bool(plain_holds(web, value)), (vars(web), value))
                found[holds] += 1
                if holds:
                    self.assertEqual(value[0], paper[0])
        self.assertGreater(min(kinds.values()), 15)
        self.assertGreater(min(found.values()), 100)

    def test_always_is_for_all_weights(self):
        choice = chance(432)
        for _ in range(60):
            web = hard_web(choice, choice.randint(2, 5), choice.randint(1, 6), choice.randint(1, 4))
            if always_paper(web) == ("always",):
                for _ in range(25):
                    links = [(choice.randint(1, 9),) + link[1:] for link in web.links]
                    weighed = Likes(web.things, links, web.bars)
                    losses = [plain_loss(weighed, people) for people in partitions(web.things)]
                    self.assertEqual(likes_loss(weighed, plain_groups(weighed)),
                                     min(loss for loss in losses if loss is not None))

    def test_many_links(self):
        choice = chance(433)
        for _ in range(10):
            web = hard_web(choice, 12, 10, 8)
            self.assertTrue(always_holds(web, always_paper(web)))
        star = Likes(11, [(1, 0, thing) for thing in range(1, 11)], [(None, 1, 2)])
        self.assertTrue(always_holds(star, always_paper(star)))

    def test_errors(self):
        many = Likes(12, [(1, 0, thing) for thing in range(1, 12)], [(None, 1, 2)])
        keeps(self, InvalidSize, "links", always_paper, many)
        keeps(self, InvalidSize, "links", always_holds, many, None)
        weighed = Likes(12, many.links, [(None, 1, 2), (3, 2, 3)])
        keeps(self, Refused, "bars", always_paper, weighed)
        keeps(self, Refused, "bars", always_holds, weighed, None)
        self.assertEqual(len(plain_groups(weighed)), 2)
        for value in odd_values():
            if not isinstance(value, Likes):
                for function in (plain_groups, always_paper):
                    keeps(self, InvalidLinks, -1, function, value)
                keeps(self, InvalidLinks, -1, always_holds, value, None)
            web = Likes(2, [(1, 0, 1)], [])
            self.assertIs(always_holds(web, value), False)
            self.assertIs(always_holds(web, (value,)), False)
            self.assertIs(always_holds(web, ("weights", value, ((0, 1),))), False)
            self.assertIs(always_holds(web, ("weights", ((1, 0, 1),), value)), False)
            check_ways(self, always_holds, (web, value))
        check_ways(self, always_paper, (Likes(4, [(1, 0, 1), (1, 1, 2), (1, 2, 3)], [(None, 0, 2), (None, 1, 3)]),))


if __name__ == "__main__":
    unittest.main()
