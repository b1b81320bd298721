"""[39], [40]: webs, losses, best groups, and trees that show them."""

import unittest

from helpers import chance, changed_values, check_ways, keeps, odd_values, same
from webs import count_pairs, leaves, partitions, plain_best, plain_groups, plain_loss, plain_tight, plain_tree
from webs import some_web, star_web, told_again
from whoiswho.best import Likes, best_holds, best_paper, likes_loss, tight_people
from whoiswho.errors import InvalidBars, InvalidLinks, InvalidPeople, InvalidSize


class LikesTest(unittest.TestCase):
    def test_attributes(self):
        likes = Likes(4, [[2, 1, 3], (5, 0, 3)], [(None, 0, 3), [1, 0, 1]])
        self.assertTrue(same(likes.things, 4))
        self.assertTrue(same(likes.links, ((5, 0, 3), (2, 1, 3))))
        self.assertTrue(same(likes.bars, ((1, 0, 1), (None, 0, 3))))
        self.assertTrue(same(Likes(bars=(), links=[], things=0).links, ()))
        self.assertEqual(Likes(12, (), ()).things, 12)

    def test_later_changes_have_no_effect(self):
        links = [[2, 0, 1]]
        likes = Likes(2, links, [])
        links[0][0] = 7
        links.append([1, 0, 1])
        self.assertEqual(likes.links, ((2, 0, 1),))

    def test_equal(self):
        one = Likes(3, [(1, 0, 1), (2, 1, 2)], [(None, 0, 2)])
        self.assertTrue(one == Likes(3, ((2, 1, 2), [1, 0, 1]), [[None, 0, 2]]))
        self.assertFalse(one != Likes(3, ((2, 1, 2), [1, 0, 1]), [[None, 0, 2]]))
        for other in (Likes(4, one.links, one.bars), Likes(3, one.links[:1], one.bars), Likes(3, one.links, ()), 3,
                      (3, one.links, one.bars), None, Likes(3, ((2, 0, 1), (2, 1, 2)), one.bars)):
            self.assertFalse(one == other)
            self.assertTrue(one != other)

    def test_no_iteration_no_length(self):
        with self.assertRaises(TypeError):
            iter(Likes(1, (), ()))
        with self.assertRaises(TypeError):
            len(Likes(1, (), ()))

    def test_wrong_things(self):
        for value in (-1, 13, True, None, "3", (), [3], 10 ** 9):
            keeps(self, InvalidSize, "things", Likes, value, None, None)

    def test_wrong_links_and_bars(self):
        wrong = [(0, 0, 1), (-1, 0, 1), (True, 0, 1), (1, 1, 0), (1, 1, 1), (1, 0, 3), (1, -1, 1), (1, False, 1), (1, 0),
                 (1, 0, 1, 0), None, 1, "101", (1, 0, True), ("1", 0, 1), (1, None, 1), (1, 0, 2)]
        for row in wrong:
            keeps(self, InvalidLinks, 1, Likes, 3, [(1, 0, 2), row, None], None)
            keeps(self, InvalidBars, 1, Likes, 3, [], [(1, 0, 2), row, None])
        keeps(self, InvalidLinks, 0, Likes, 3, [(None, 0, 1)], [])
        for value in (None, 1, "ab", True, Likes(1, (), ())):
            keeps(self, InvalidLinks, -1, Likes, 3, value, None)
            keeps(self, InvalidBars, -1, Likes, 3, [(1, 0, 1)], value)
        keeps(self, InvalidLinks, 0, Likes, 0, [(1, 0, 1)], [])
        Likes(3, [(1, 0, 1)], [(1, 0, 1)])


class LossTest(unittest.TestCase):
    def test_against_plain_ways(self):
        choice = chance(39)
        for _ in range(60):
            web = some_web(choice, choice.randint(0, 5), 10)
            for people in partitions(web.things):
                self.assertTrue(same(likes_loss(web, people), plain_loss(web, people)))
                self.assertTrue(same(tight_people(web, people), plain_tight(web, people)))
                self.assertEqual(tight_people(web, tight_people(web, people)), tight_people(web, people))

    def test_wrong_values(self):
        web = Likes(3, [(1, 0, 1)], [])
        wrong = [((), (0, 1, 2)), ((0, 1),), ((0, 1), (1, 2)), ((1, 2), (0,)), ((0, 2, 1),), ((0,), (1,), (2,), ()), [(0, 1, 2)],
                 ([0, 1, 2],), ((0, True), (2,)), ((False, 1, 2),), ((0, 1, 2, 3),), (), None, 3, ((0, 1, 2), 3), "012"]
        for function in (likes_loss, tight_people):
            for people in wrong:
                keeps(self, InvalidPeople, -1, function, web, people)
            for value in odd_values():
                if not isinstance(value, Likes):
                    keeps(self, InvalidLinks, -1, function, value, ())
                    check_ways(self, function, (web, value))
            check_ways(self, function, (web, ((0, 1), (2,))))
        self.assertEqual(likes_loss(Likes(0, (), ()), ()), 0)
        self.assertEqual(tight_people(Likes(0, (), ()), ()), ())


class BestTest(unittest.TestCase):
    def check_paper(self, web, most, paper):
        if paper == ("bound",):
            self.assertLess(most, 2 ** count_pairs(web))
            return
        word, groups, loss, tree = paper
        least, best = plain_best(web)
        self.assertEqual((word, loss), ("best", least))
        self.assertIn(groups, best)
        self.assertLessEqual(leaves(tree), most)
        self.assertTrue(plain_tree(web, loss, tree, ()))
        self.assertTrue(best_holds(web, paper))

    def test_examples(self):
        likes = Likes(3, [(3, 0, 1), (2, 1, 2)], [(1, 0, 2)])
        self.assertEqual(best_paper(likes, 8)[:3], ("best", ((0, 1, 2),), 1))
        self.assertTrue(same(best_paper(Likes(0, (), ()), 1), ("best", (), 0, ("rings", ()))))

    def test_papers_of_many_webs(self):
        choice = chance(40)
        for _ in range(250):
            web = some_web(choice, choice.randint(0, 6), choice.randint(0, 10))
            for most in (1, choice.randint(1, 40), 2 ** count_pairs(web)):
                self.check_paper(web, most, best_paper(web, most))
        for _ in range(40):
            web = star_web(choice, choice.randint(1, 6))
            self.check_paper(web, 2 ** 12, best_paper(web, 2 ** 12))

    def test_seven_things(self):
        choice = chance(407)
        for _ in range(12):
            web = some_web(choice, 7, 10)
            self.check_paper(web, 2 ** 12, best_paper(web, 2 ** 12))

    def test_webs_that_need_told_pairs(self):
        pairs = [(0, 1), (0, 2), (0, 3), (1, 2), (1, 3), (2, 3)]
        web = Likes(4, [(1,) + pair for pair in pairs[:3]], [(1,) + pair for pair in pairs[3:]])
        paper = best_paper(web, 64)
        self.check_paper(web, 64, paper)
        self.assertEqual(paper[2], 2)
        self.assertGreater(leaves(paper[3]), 1)
        self.assertEqual(best_paper(web, 1), ("bound",))
        choice = chance(4040)
        hard = 0
        while hard < 25:
            things = choice.randint(4, 6)
            pairs = [(one, other) for one in range(things) for other in range(one + 1, things)]
            choice.shuffle(pairs)
            web = Likes(things, [(1,) + pair for pair in pairs[:5]], [(1,) + pair for pair in pairs[5:10]])
            many = leaves(best_paper(web, 2 ** 10)[3])
            hard += many > 2
            for most in range(1, many + 2):
                self.check_paper(web, most, best_paper(web, most))

    def test_changed_papers(self):
        choice = chance(401)
        right = 0
        for _ in range(60):
            web = some_web(choice, choice.randint(2, 5), choice.randint(2, 8))
            paper = best_paper(web, 2 ** 10)
            least, best = plain_best(web)
            for value in changed_values(paper, choice, 40):
                holds = best_holds(web, value)
                told = (type(value) is tuple and len(value) == 4 and same(value[0], "best") and plain_groups(web, value[1])
                        and same(plain_loss(web, value[1]), value[2]) and plain_tree(web, value[2], value[3], ()))
                self.assertTrue(same(holds, bool(told)), (vars(web), value))
                if holds:
                    right += 1
                    self.assertIn(value[1], best)
                    self.assertEqual(value[2], least)
        self.assertGreater(right, 50)

    def test_papers_by_hand(self):
        web = Likes(3, [(2, 0, 1), (2, 1, 2)], [(None, 0, 2)])
        people = ((0, 1), (2,))
        way = ("rings", ((2, (0, 1, 2)),))
        self.assertTrue(best_holds(web, ("best", people, 2, way)))
        self.assertTrue(best_holds(web, ("best", people, 2, ("rings", ((1, (0, 1, 2)), (1, (2, 1, 0)))))))
        self.assertTrue(best_holds(web, ("best", ((0,), (1, 2)), 2, way)))
        told = ("pair", 0, 2, ("rings", ((2, (0, 2)),)), way)
        self.assertTrue(best_holds(web, ("best", people, 2, told)))
        self.assertTrue(best_holds(web, ("best", people, 2, ("pair", 1, 2, way, ("rings", ())))))
        self.assertFalse(best_holds(web, ("best", people, 2, ("pair", 1, 2, ("rings", ()), ("rings", ())))))
        two = ("pair", 1, 2, way, ("rings", ((1, (0, 1, 0)),)))
        self.assertFalse(best_holds(web, ("best", people, 2, two)))
        both = ("pair", 0, 1, ("pair", 1, 2, ("rings", ((2, (0, 1, 2)),)), ("rings", ())), ("rings", ()))
        self.assertTrue(best_holds(web, ("best", people, 2, both)))
        # Told one, then two: the pair's own link is lost. Told one again: nothing more than the way shows.
        again = ("pair", 0, 1, ("pair", 0, 1, ("rings", ((2, (0, 1, 2)),)), ("rings", ())), ("rings", ()))
        self.assertTrue(best_holds(web, ("best", people, 2, again)))
        again = ("pair", 0, 1, ("pair", 0, 1, ("rings", ((1, (0, 1, 2)),)), ("rings", ())), ("rings", ()))
        self.assertFalse(best_holds(web, ("best", people, 2, again)))
        self.assertFalse(best_holds(web, ("best", people, 2, ("pairs",) + told[1:])))
        for tree in (("rings", ((3, (0, 1, 2)),)), ("rings", ((2, (0, 2)),)), ("rings", ((1, (0, 1, 2)),)),
                     ("rings", ((1, (0, 1, 2)), (2, (0, 1, 2)))), ("rings", ((2, ()),)), ("rings", ((2, (0, 1, 2)), (0, (0, 1, 2)))),
                     ("rings", ((3, (0, 1, 2)), (-1, (0, 1, 2)))), ("rings", [(2, (0, 1, 2))]),
                     ("rings", ((2, [0, 1, 2]),)), ("rings", ((2, (0, True, 2)),)), ("rings", ((2, (0,)),)),
                     ("rings", ()), ("rings", ((2, (0, 1, 2, 3)),)), ("pair", 2, 0, way, way), ("pair", 0, 3, way, way),
                     ("pair", 0, 0, way, way), ("pair", False, 2, way, way), ("ring", way[1]), None, ()):
            self.assertFalse(best_holds(web, ("best", people, 2, tree)), tree)
        self.assertFalse(best_holds(web, ("best", ((0, 1, 2),), None, way)))
        self.assertFalse(best_holds(web, ("best", ((0,), (1,), (2,)), 4, way)))
        self.assertFalse(best_holds(web, ("best", people, 2, way, 0)))
        self.assertFalse(best_holds(web, ("bound",)))

    def test_pairs_that_stand_on_the_way_again(self):
        choice = chance(406)
        found = {True: 0, False: 0}
        for _ in range(500):
            web = some_web(choice, choice.randint(3, 4), choice.randint(4, 6))
            least, best = plain_best(web)
            pair = tuple(sorted(choice.sample(range(web.things), 2)))
            tree = best_paper(web, 2 ** 10)[3]
            tree = told_again(choice, ("pair",) + pair + (tree, tree))
            value = ("best", choice.choice(best), least, tree)
            holds = best_holds(web, value)
            self.assertIs(holds, plain_tree(web, least, tree, ()), (vars(web), value))
            found[holds] += least > 0
        self.assertGreater(min(found.values()), 30)

    def test_links_as_often_as_rows_go_along(self):
        web = Likes(2, [(2, 0, 1)], [(3, 0, 1)])
        self.assertFalse(best_holds(web, ("best", ((0,), (1,)), 2, ("rings", ((1, (0, 1, 0, 1)),)))))
        web = Likes(2, [(3, 0, 1)], [(1, 0, 1)])
        self.assertTrue(best_holds(web, ("best", ((0, 1),), 1, ("rings", ((1, (0, 1, 0, 1)),)))))
        web = Likes(2, [(2, 0, 1)], [(1, 0, 1)])
        self.assertFalse(best_holds(web, ("best", ((0, 1),), 1, ("rings", ((1, (0, 1, 0, 1)),)))))

    def test_errors(self):
        web = Likes(2, [(1, 0, 1)], [])
        for most in (0, -1, True, None, "1", (1,), Likes(1, (), ())):
            keeps(self, InvalidSize, "most", best_paper, web, most)
        for value in odd_values():
            if not isinstance(value, Likes):
                keeps(self, InvalidLinks, -1, best_paper, value, None)
                keeps(self, InvalidLinks, -1, best_holds, value, None)

    def test_odd_values_and_ways(self):
        web = Likes(3, [(2, 0, 1), (2, 1, 2)], [(None, 0, 2)])
        check_ways(self, best_paper, (web, 8))
        for value in odd_values():
            self.assertTrue(same(best_holds(web, value), False))
            for word in ("best", "rings", "pair"):
                self.assertFalse(best_holds(web, (word, value)))
                self.assertFalse(best_holds(web, ("best", value, value, (word, value))))
                self.assertFalse(best_holds(web, ("best", ((0, 1), (2,)), 2, (word, value))))
                self.assertFalse(best_holds(web, ("best", ((0, 1), (2,)), 2, (word, 0, 1, value, value))))
            check_ways(self, best_holds, (web, value))


if __name__ == "__main__":
    unittest.main()
