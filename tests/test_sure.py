"""[42]: what is so in all best groups, told step by step."""

import itertools
import unittest

from helpers import chance, changed_values, check_ways, has_list, keeps, odd_values, same
from webs import plain_best, some_web, star_web, together
from whoiswho.best import Likes
from whoiswho.errors import InvalidLinks, Refused
from whoiswho.sure import left_likes, sure_holds, sure_steps


class PlainState:
    """Groups, and pairs of groups told two, with all weights added up anew each time."""

    def __init__(self, web):
        self.web = web
        self.groups = [frozenset([thing]) for thing in range(web.things)]
        self.twos = []

    def of(self, thing):
        return [group for group in self.groups if thing in group][0]

    def bars(self):
        return list(self.web.bars) + [(None,) + pair for pair in self.twos]

    def added(self, rows, one, other):
        """The weights of all rows between two lots of things: None with any of None, 0 for no row."""
        found = [weight for weight, a, b in rows if (a in one and b in other) or (a in other and b in one)]
        return None if None in found else sum(found)

    def may(self, word, one, other, side):
        first, second = self.of(one), self.of(other)
        if not first <= side or second & side or any(group & side and not group <= side for group in self.groups):
            return False
        rest = set(range(self.web.things)) - side
        links = self.added(self.web.links, side, rest)
        if word == "two":
            weight = self.added(self.bars(), first, second)
            return weight is not None and weight > links
        bars = self.added(self.bars(), side, rest)
        link = self.added(self.web.links, first, second)
        return bars is not None and link > links - link + bars

    def tell(self, word, one, other):
        if word == "one":
            joined = self.of(one) | self.of(other)
            self.groups = [group for group in self.groups if not group & joined] + [joined]
        else:
            self.twos.append((one, other))

    def all_steps(self):
        things = range(self.web.things)
        sides = [frozenset(side) for many in range(1, len(things)) for side in itertools.combinations(things, many)]
        return [(word, one, other, tuple(sorted(side))) for one in things for other in things if one != other
                for side in sides for word in ("one", "two") if self.may(word, one, other, side)]

    def left(self):
        """(groups, lost, web), with the things of each group at its place."""
        groups = tuple(sorted(tuple(sorted(group)) for group in self.groups))
        lost = sum(weight for weight, a, b in self.web.bars if together(groups, a, b))
        links, bars = [], []
        for a, b in itertools.combinations(range(len(groups)), 2):
            for rows, out in ((self.web.links, links), (self.bars(), bars)):
                found = [weight for weight, x, y in rows if (x in groups[a] and y in groups[b]) or (y in groups[a] and x in groups[b])]
                if found:
                    out.append((None if None in found else sum(found), a, b))
        return groups, lost, Likes(len(groups), links, bars)


def plain_behind(web, value):
    """The state behind any value, if it is steps that may be told, else None."""
    if type(value) is not tuple:
        return None
    state = PlainState(web)
    for step in value:
        if type(step) is not tuple or len(step) != 4 or type(step[0]) is not str or step[0] not in ("one", "two"):
            return None
        word, one, other, side = step
        if type(side) is not tuple or not side:
            return None
        if not all(type(thing) is int and 0 <= thing < web.things for thing in (one, other) + side):
            return None
        if list(side) != sorted(set(side)) or not state.may(word, one, other, frozenset(side)):
            return None
        state.tell(word, one, other)
    return state


def some_hard_web(choice, things):
    """Weights far from one another, so that much is sure, or near to one another."""
    web = some_web(choice, things, 12) if choice.random() < 0.8 else star_web(choice, things)
    if choice.random() < 0.5:
        links = [(choice.choice([1, 1, 2, 7, 20]),) + link[1:] for link in web.links]
        bars = [(choice.choice([1, 1, 2, 7, 20, None]),) + bar[1:] for bar in web.bars]
        return Likes(things, links, bars)
    return web


class SureTest(unittest.TestCase):
    def test_by_hand(self):
        web = Likes(3, [(3, 0, 1), (2, 1, 2)], [(1, 0, 2)])
        steps = sure_steps(web)
        self.assertTrue(sure_holds(web, steps))
        self.assertEqual(left_likes(web, steps), (((0, 1, 2),), 1, Likes(1, (), ())))
        self.assertEqual(left_likes(web, ()), (((0,), (1,), (2,)), 0, web))
        self.assertEqual(sure_steps(Likes(0, (), ())), ())
        self.assertEqual(left_likes(Likes(0, (), ()), ()), ((), 0, Likes(0, (), ())))
        # Just as much is not greater.
        even = Likes(3, [(2, 0, 1), (2, 1, 2)], [(1, 0, 2)])
        self.assertTrue(sure_holds(even, (("one", 0, 1, (0,)),)))
        self.assertFalse(sure_holds(even, (("one", 0, 1, (0, 2)),)))
        self.assertEqual(sure_steps(Likes(2, [(2, 0, 1)], [(2, 0, 1)])), ())
        self.assertEqual(sure_steps(Likes(2, [(2, 0, 1)], [(3, 0, 1)]))[0][:3], ("two", 0, 1))
        self.assertEqual(sure_steps(Likes(2, [(9, 0, 1)], [(None, 0, 1)])), ())
        # What is told two bars without bound: it can't be told again, and no side may cut it.
        told = (("two", 0, 1, (0,)),)
        apart = Likes(2, [(2, 0, 1)], [(3, 0, 1)])
        self.assertTrue(sure_holds(apart, told))
        self.assertFalse(sure_holds(apart, told + told))
        self.assertEqual(left_likes(apart, told), (((0,), (1,)), 0, Likes(2, [(2, 0, 1)], [(None, 0, 1)])))

    def test_steps(self):
        choice = chance(42)
        words = {"one": 0, "two": 0}
        left = 0
        for _ in range(120):
            web = some_hard_web(choice, choice.randint(1, 6))
            steps = sure_steps(web)
            self.assertFalse(has_list(steps))
            state = plain_behind(web, steps)
            self.assertIsNotNone(state)
            self.assertIs(sure_holds(web, steps), True)
            self.assertEqual(state.all_steps(), [])
            loss, best = plain_best(web)
            for word, one, other, _ in steps:
                words[word] += 1
                self.assertTrue(all(together(people, one, other) == (word == "one") for people in best))
            groups, lost, behind = left_likes(web, steps)
            self.assertTrue(same((groups, lost, behind), state.left()))
            self.assertEqual(loss, lost + plain_best(behind)[0])
            left += len(groups) > 1
        self.assertGreater(min(words.values()), 60)
        self.assertGreater(left, 20)

    def test_seven_things(self):
        choice = chance(421)
        for _ in range(4):
            web = some_hard_web(choice, 7)
            steps = sure_steps(web)
            state = plain_behind(web, steps)
            self.assertEqual(state.all_steps(), [])
        many = some_web(choice, 12, 66)
        self.assertTrue(sure_holds(many, sure_steps(many)))

    def test_any_steps(self):
        choice = chance(422)
        found = {True: 0, False: 0}
        for _ in range(150):
            web = some_hard_web(choice, choice.randint(2, 5))
            state, row = PlainState(web), []
            while choice.random() < 0.85:
                rows = state.all_steps()
                if not rows:
                    break
                row.append(choice.choice(rows))
                state.tell(*row[-1][:3])
            values = [tuple(row)]
            rows = state.all_steps()
            things = range(web.things)
            for side in itertools.chain(*[itertools.combinations(things, many) for many in range(web.things + 1)]):
                one, other = choice.sample(things, 2)
                values.append(tuple(row) + ((choice.choice(["one", "two"]), one, other, side),))
            for value in values + changed_values(tuple(row), choice, 10):
                behind = plain_behind(web, value)
                self.assertIs(sure_holds(web, value), behind is not None, (vars(web), value))
                found[behind is not None] += 1
                if behind is None:
                    keeps(self, Refused, "steps", left_likes, web, value)
                else:
                    self.assertTrue(same(left_likes(web, value), behind.left()))
        self.assertGreater(min(found.values()), 200)

    def test_errors(self):
        web = Likes(3, [(3, 0, 1), (2, 1, 2)], [(1, 0, 2)])
        good = ("one", 0, 1, (0,))
        self.assertTrue(sure_holds(web, (good,)))
        for step in [None, 3, list(good), good[:3], good + (0,), ("one", 1, 0, (0,)), ("one", 0, 1, ()), ("one", 0, 1, [0]), ("one", 0, 1, (0, 0)),
                     ("one", 0, 1, (2, 0)), ("one", 0, 1, (0, 3)), ("one", 0, 1, (0, 1)), ("one", 0, 0, (0,)), ("one", False, 1, (0,)),
                     ("one", 0, 1, (False,)), ("One", 0, 1, (0,)), ("one", 0, 3, (0,)), (None, 0, 1, (0,)), ("two", 0, 1, (0,)),
                     (["one"], 0, 1, (0,)), ("one", 0, True, (0,)), ("one", 0, 1, None)]:
            self.assertIs(sure_holds(web, (step,)), False)
            keeps(self, Refused, "steps", left_likes, web, (step,))
        keeps(self, Refused, "steps", left_likes, web, None)
        for value in odd_values():
            if not isinstance(value, Likes):
                keeps(self, InvalidLinks, -1, sure_steps, value)
                keeps(self, InvalidLinks, -1, sure_holds, value, ())
                keeps(self, InvalidLinks, -1, left_likes, value, None)
            self.assertIs(sure_holds(web, value), same(value, ()))
            self.assertIs(sure_holds(web, (value,)), False)
            check_ways(self, left_likes, (web, value))
            check_ways(self, sure_holds, (web, value))
        check_ways(self, sure_steps, (web,))
        check_ways(self, left_likes, (web, sure_steps(web)))


if __name__ == "__main__":
    unittest.main()
