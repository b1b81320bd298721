"""[43]: blocks, how many groups are best, what a pair is in them."""

import itertools
import unittest

from helpers import chance, changed_values, check_ways, keeps, odd_values, same
from webs import count_pairs, leaves, partitions, plain_best, plain_groups, plain_loss, plain_tight, plain_tree
from webs import some_web, star_web, together, told_again
from whoiswho.best import Likes
from whoiswho.blocks import best_count, like_blocks, turning_weight, word_holds, word_paper
from whoiswho.errors import InvalidIndex, InvalidLinks, InvalidSize


def hang_together(pairs, things):
    """Whether things hang together by pairs."""
    reached = set(sorted(things)[:1])
    while True:
        more = {thing for pair in pairs if set(pair) & reached for thing in pair} - reached
        if not more:
            return things <= reached
        reached |= more


def plain_blocks(web):
    pairs = sorted({row[1:] for row in web.links + web.bars})
    alike = {pair: {pair} for pair in pairs}
    for one, other in itertools.combinations(pairs, 2):
        if all(hang_together([pair for pair in pairs if thing not in pair], (set(one) | set(other)) - {thing})
               for thing in range(web.things)):
            alike[one].add(other)
            alike[other].add(one)
    lots = {tuple(sorted({thing for pair in lot for thing in pair})) for lot in alike.values()}
    alone = {(thing,) for thing in range(web.things) if not any(thing in pair for pair in pairs)}
    return tuple(sorted(lots | alone))


def plain_word(first, second):
    if first is None or first > second:
        return "two"
    return "one" if first < second else "open"


def plain_side(web, pair, word, value):
    if type(value) is not tuple or len(value) != 3 or type(value[0]) is not int or not plain_groups(web, value[1]):
        return False
    return together(value[1], *pair) == (word == "one") and plain_loss(web, value[1]) == value[0] \
        and plain_tree(web, value[0], value[2], ((pair, word),))


def plain_holds(web, pair, value):
    if type(value) is not tuple or len(value) != 3 or type(value[0]) is not str:
        return False
    if not plain_side(web, pair, "two", value[2]):
        return False
    if (None,) + pair in web.bars:
        return value[0] == "two" and value[1] is None
    return plain_side(web, pair, "one", value[1]) and value[0] == plain_word(value[1][0], value[2][0])


class BlocksTest(unittest.TestCase):
    def test_blocks_and_counts(self):
        choice = chance(43)
        for _ in range(150):
            web = some_web(choice, choice.randint(0, 6), 9)
            self.assertTrue(same(like_blocks(web), plain_blocks(web)))
            tight = [people for people in plain_best(web)[1] if plain_tight(web, people) == people]
            self.assertTrue(same(best_count(web), len(tight)))
        for _ in range(5):
            web = some_web(choice, 7, 10)
            self.assertEqual(best_count(web), sum(plain_tight(web, people) == people for people in plain_best(web)[1]))

    def test_blocks_by_hand(self):
        self.assertEqual(like_blocks(Likes(0, (), ())), ())
        self.assertEqual(best_count(Likes(0, (), ())), 1)
        web = Likes(7, [(1, 0, 1), (1, 1, 2), (1, 3, 4)], [(1, 0, 2), (None, 2, 3)])
        self.assertEqual(like_blocks(web), ((0, 1, 2), (2, 3), (3, 4), (5,), (6,)))
        self.assertEqual(best_count(web), 3)
        self.assertEqual(best_count(Likes(2, [(1, 0, 1)], [(1, 0, 1)])), 2)
        self.assertEqual(best_count(Likes(3, (), [(1, 0, 1)])), 1)

    def test_words(self):
        choice = chance(431)
        words = set()
        for _ in range(80):
            web = some_web(choice, choice.randint(2, 5), 8) if choice.random() < 0.8 else star_web(choice, 5)
            one, other = choice.sample(range(web.things), 2)
            pair = (min(one, other), max(one, other))
            first, second = (plain_best(web, ((pair, word),))[0] for word in ("one", "two"))
            best = plain_best(web)[1]
            for most in (1, 2, choice.randint(1, 30), 2 ** (count_pairs(web) + 1)):
                paper = word_paper(web, one, other, most)
                if paper == ("bound",):
                    words.add("bound")
                    self.assertLess(most, 2 ** (count_pairs(web) + 1))
                    self.assertFalse(word_holds(web, one, other, paper))
                    continue
                words.add(paper[0])
                told = {together(people, one, other) for people in best}
                self.assertEqual(paper[0], {True: "one", False: "two"}[told.pop()] if len(told) == 1 else "open")
                self.assertTrue(same(paper[1] if first is None else paper[1][0], first))
                self.assertTrue(same(paper[2][0], second))
                self.assertLessEqual((leaves(paper[1][2]) if paper[1] else 0) + leaves(paper[2][2]), most)
                self.assertTrue(plain_holds(web, pair, paper))
                self.assertTrue(word_holds(web, one, other, paper))
                self.assertTrue(word_holds(web, other, one, paper))
                for value in changed_values(paper, choice, 12):
                    told = plain_holds(web, pair, value)
                    self.assertTrue(same(word_holds(web, one, other, value), told))
        self.assertEqual(words, {"one", "two", "open", "bound"})

    def test_any_such_groups_and_trees(self):
        web = Likes(3, [(2, 0, 1), (2, 1, 2)], [(2, 0, 2)])
        way = ("rings", ((2, (0, 1, 2)),))
        first, second = (2, ((0, 1, 2),), ("rings", ())), (2, ((0, 1), (2,)), way)
        self.assertTrue(word_holds(web, 0, 2, ("open", first, second)))
        self.assertTrue(word_holds(web, 0, 2, ("open", first, (2, ((0,), (1, 2)), way))))
        told = ("pair", 0, 1, ("pair", 1, 2, way, ("rings", ())), ("rings", ()))
        self.assertTrue(word_holds(web, 2, 0, ("open", first, (2, ((0,), (1, 2)), told))))
        # The pair itself may be told again: told two, and then one, the bar on it bars without bound, and is lost.
        again = ("pair", 0, 2, ("rings", ()), way)
        self.assertTrue(word_holds(web, 0, 2, ("open", first, (2, ((0, 1), (2,)), again))))
        self.assertFalse(word_holds(web, 0, 2, ("open", first, (2, ((0, 1), (2,)), again[:4] + (("rings", ()),)))))
        for value in [("one", first, second), ("two", first, second), ("open", None, second), ("open", second, first),
                      ("open", first, (2, ((0, 1, 2),), way)), ("open", (2, ((0, 1), (2,)), ("rings", ())), second),
                      ["open", first, second], ("open", list(first), second), ("open", first), ("bound",)]:
            self.assertFalse(word_holds(web, 0, 2, value))
        barred = Likes(2, [(5, 0, 1)], [(None, 0, 1)])
        self.assertTrue(word_holds(barred, 0, 1, ("two", None, (5, ((0,), (1,)), ("rings", ())))))
        self.assertFalse(word_holds(barred, 0, 1, ("two", (5, ((0, 1),), ("rings", ())), (5, ((0,), (1,)), ("rings", ())))))
        self.assertTrue(same(word_paper(barred, 0, 1, 1), ("two", None, (5, ((0,), (1,)), ("rings", ())))))

    def test_pairs_that_stand_on_the_way_again(self):
        choice = chance(436)
        found = {True: 0, False: 0}
        for _ in range(300):
            web = some_web(choice, choice.randint(3, 4), choice.randint(4, 6))
            pair = tuple(sorted(choice.sample(range(web.things), 2)))
            paper = word_paper(web, pair[0], pair[1], 2 ** 10)
            value = paper[:1] + tuple(side and side[:2] + (told_again(choice, side[2], (pair,)),) for side in paper[1:])
            holds = word_holds(web, pair[0], pair[1], value)
            self.assertIs(holds, plain_holds(web, pair, value), (vars(web), pair, value))
            found[holds] += 1
        self.assertGreater(min(found.values()), 30)

    def test_turning_weights(self):
        choice = chance(432)
        self.assertEqual(turning_weight(Likes(3, [(3, 0, 1), (2, 1, 2)], [(1, 0, 2)]), 0, 2), -2)
        nones = 0
        for _ in range(60):
            web = some_web(choice, choice.randint(2, 5), 7)
            for one, other in itertools.combinations(range(web.things), 2):
                weight = turning_weight(web, one, other)
                self.assertTrue(same(weight, turning_weight(web, other, one)))
                if (None, one, other) in web.bars:
                    nones += 1
                    self.assertIsNone(weight)
                    continue
                self.assertIs(type(weight), int)
                for s in (weight - 1, weight, weight + 1):
                    links = [link for link in web.links if link[1:] != (one, other)] + ([(s, one, other)] if s > 0 else [])
                    bars = [bar for bar in web.bars if bar[1:] != (one, other)] + ([(-s, one, other)] if s < 0 else [])
                    best = plain_best(Likes(web.things, links, bars))[1]
                    told = {together(people, one, other) for people in best}
                    self.assertEqual(told, {True} if s > weight else {False} if s < weight else {True, False})
        self.assertGreater(nones, 5)

    def test_errors(self):
        web = Likes(3, [(1, 0, 1)], [])
        for thing in (3, -1, True, None, "0", (0,), [0]):
            keeps(self, InvalidIndex, 0, word_paper, web, thing, thing, None)
            keeps(self, InvalidIndex, 1, word_paper, web, 0, thing, None)
            keeps(self, InvalidIndex, 0, word_holds, web, thing, thing, None)
            keeps(self, InvalidIndex, 1, word_holds, web, 0, thing, None)
            keeps(self, InvalidIndex, 0, turning_weight, web, thing, thing)
            keeps(self, InvalidIndex, 1, turning_weight, web, 0, thing)
        keeps(self, InvalidIndex, 1, word_paper, web, 2, 2, None)
        keeps(self, InvalidIndex, 1, word_holds, web, 2, 2, None)
        keeps(self, InvalidIndex, 1, turning_weight, web, 2, 2)
        for most in (0, -1, True, None, "1", (1,)):
            keeps(self, InvalidSize, "most", word_paper, web, 0, 1, most)
        for value in odd_values():
            if not isinstance(value, Likes):
                keeps(self, InvalidLinks, -1, like_blocks, value)
                keeps(self, InvalidLinks, -1, best_count, value)
                keeps(self, InvalidLinks, -1, word_paper, value, None, None, None)
                keeps(self, InvalidLinks, -1, word_holds, value, None, None, None)
                keeps(self, InvalidLinks, -1, turning_weight, value, None, None)

    def test_odd_values_and_ways(self):
        web = Likes(3, [(2, 0, 1), (2, 1, 2)], [(2, 0, 2)])
        for function in (like_blocks, best_count):
            check_ways(self, function, (web,))
        check_ways(self, word_paper, (web, 2, 0, 16))
        check_ways(self, turning_weight, (web, 2, 0))
        paper = word_paper(web, 0, 2, 16)
        check_ways(self, word_holds, (web, 0, 2, paper))
        for value in odd_values():
            self.assertTrue(same(word_holds(web, 0, 2, value), False))
            self.assertFalse(word_holds(web, 0, 2, (paper[0], value, paper[2])))
            self.assertFalse(word_holds(web, 0, 2, (paper[0], paper[1], value)))
            self.assertFalse(word_holds(web, 0, 2, (value, paper[1], paper[2])))
            self.assertFalse(word_holds(web, 0, 2, (paper[0], paper[1], (2, value, ("rings", value)))))
            check_ways(self, word_holds, (web, 0, 2, value))
        self.assertEqual(len(partitions(4)), 15)


if __name__ == "__main__":
    unittest.main()
