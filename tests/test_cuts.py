"""[41]: webs whose bars share a thing."""

import unittest

from helpers import chance, check_ways, keeps, odd_values, same
from webs import leaves, plain_best, plain_loss, plain_tree, some_web, star_web
from whoiswho.best import Likes, best_holds
from whoiswho.cuts import star_paper
from whoiswho.errors import InvalidLinks, Refused


class CutsTest(unittest.TestCase):
    def check(self, web):
        word, groups, loss, tree = star_paper(web)
        least, best = plain_best(web)
        self.assertEqual(word, "best")
        self.assertTrue(same(loss, least))
        self.assertIn(groups, best)
        self.assertEqual((tree[0], leaves(tree)), ("rings", 1))
        self.assertTrue(plain_tree(web, loss, tree, ()))
        self.assertTrue(best_holds(web, (word, groups, loss, tree)))

    def test_stars(self):
        choice = chance(41)
        for _ in range(300):
            self.check(star_web(choice, choice.randint(1, 6)))
        for _ in range(12):
            self.check(star_web(choice, 7))

    def test_flows_go_back_where_they_must(self):
        choice = chance(413)
        for _ in range(1500):
            things = choice.randint(4, 7)
            pairs = [(one, other) for one in range(things) for other in range(one + 1, things)]
            centre = choice.randrange(things)
            links = [(choice.randint(1, 3),) + pair for pair in pairs if choice.random() < 0.5]
            bars = [(choice.choice([None, 1, 2, 3]),) + pair for pair in pairs if centre in pair and choice.random() < 0.5]
            web = Likes(things, links, bars)
            _, groups, loss, tree = star_paper(web)
            self.assertEqual(plain_loss(web, groups), loss)
            self.assertTrue(plain_tree(web, loss, tree, ()))

    def test_seven_things_with_all_pairs(self):
        choice = chance(411)
        pairs = [(one, other) for one in range(7) for other in range(one + 1, 7)]
        for centre in (0, 3, 6):
            links = [(choice.randint(1, 100),) + pair for pair in pairs]
            bars = [(choice.choice([None, 30, 100]),) + pair for pair in pairs if centre in pair]
            self.check(Likes(7, links, bars))

    def test_few_bars(self):
        self.check(Likes(0, (), ()))
        self.check(Likes(3, [(2, 0, 1)], ()))
        self.check(Likes(3, [(2, 0, 1), (3, 1, 2)], [(None, 0, 2)]))
        self.check(Likes(2, [(2, 0, 1)], [(3, 0, 1)]))
        self.check(Likes(2, (), [(3, 0, 1)]))
        self.check(Likes(4, [(2, 0, 1)], [(3, 2, 3), (1, 1, 3)]))
        self.assertTrue(same(star_paper(Likes(2, [(1, 0, 1)], ())), ("best", ((0, 1),), 0, ("rings", ()))))

    def test_refused(self):
        choice = chance(412)
        refused = 0
        for _ in range(300):
            web = some_web(choice, choice.randint(0, 5), 8)
            if web.bars and not any(all(thing in bar[1:] for bar in web.bars) for thing in range(web.things)):
                refused += 1
                keeps(self, Refused, "bars", star_paper, web)
            else:
                self.check(web)
        self.assertGreater(refused, 20)
        keeps(self, Refused, "bars", star_paper, Likes(3, (), [(1, 0, 1), (1, 1, 2), (1, 0, 2)]))

    def test_odd_values_and_ways(self):
        for value in odd_values():
            if not isinstance(value, Likes):
                keeps(self, InvalidLinks, -1, star_paper, value)
        check_ways(self, star_paper, (Likes(3, [(2, 0, 1), (3, 1, 2)], [(None, 0, 2)]),))


if __name__ == "__main__":
    unittest.main()
