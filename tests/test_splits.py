"""[67], [68]: steps between partitions, what is between and beside them, many judges."""

import itertools
import unittest

from helpers import chance, changed_values, check_ways, has_list, in_lists, keeps, odd_values, same
from test_measures import answers, named, some_parts
from webs import partitions
from whoiswho.errors import InvalidIndex, InvalidPeople, InvalidSteps, Refused
from whoiswho.measures import pair_counts, unlike_pairs
from whoiswho.splits import above_parts, below_parts, fewest_steps, is_beside, is_between, judges_hold, judges_paper
from whoiswho.splits import split_first, steps_after, steps_cost, steps_height, steps_hold

NAMES = [(0, 0), (0, 1), (0, 3), (1, 0), (2, 5), (2, 6), (3, 0), (3, 1), (4, 0)]
TWO = [above_parts, below_parts, steps_height, fewest_steps, split_first]
THREE = [is_between, is_beside]
A, B, C = NAMES[:3]


def all_parts(many):
    return [named(people, NAMES) for people in partitions(many)]


def form(groups):
    return tuple(sorted(tuple(sorted(group)) for group in groups if group))


def next_steps(parts):
    """All steps that can be done, with the parts behind each and how many pairs it turns."""
    found = []
    for group in parts:
        for many in range(1, len(group)):
            for part in itertools.combinations(group[1:], many):
                rest = [name for name in group if name not in part]
                found.append((("split", group, part), form([row for row in parts if row != group] + [rest, part]),
                              len(rest) * len(part)))
    for one, other in itertools.combinations(parts, 2):
        rest = [row for row in parts if row not in (one, other)]
        found.append((("join", one, other), form(rest + [one + other]), len(one) * len(other)))
    return found


def distances(start, cost):
    """The fewest steps, or the least cost, to all parts of the names."""
    found, waiting = {start: 0}, [(0, start)]
    while waiting:
        waiting.sort()
        far, here = waiting.pop(0)
        if far == found[here]:
            for _, behind, turned in next_steps(here):
                further = far + (turned if cost else 1)
                if behind not in found or further < found[behind]:
                    found[behind] = further
                    waiting.append((further, behind))
    return found


class StepsTest(unittest.TestCase):
    def test_example(self):
        one, other = (((0, 0), (0, 1)), ((1, 0),)), (((0, 0),), ((0, 1), (1, 0)))
        self.assertEqual(pair_counts(one, other), (0, 1, 1, 1))
        self.assertEqual((steps_height(one, other), len(fewest_steps(one, other))), (2, 2))

    def test_steps_after_and_cost(self):
        choice = chance(67)
        for _ in range(100):
            parts = start = some_parts(choice, NAMES[:choice.randint(0, 9)])
            steps, cost = [], 0
            for _ in range(choice.randint(0, 30)):
                rows = next_steps(parts)
                if rows:
                    step, parts, turned = choice.choice(rows)
                    steps.append(step)
                    cost += turned
            self.assertTrue(same(steps_after(start, steps), parts))
            self.assertTrue(same(steps_cost(start, tuple(steps)), cost))
            self.assertTrue(same(steps_after(start, in_lists(steps)), parts))
            turned = sum(len(unlike_pairs(steps_after(start, steps[:at]), steps_after(start, steps[:at + 1])))
                         for at in range(len(steps)))
            self.assertEqual(turned, cost)
        self.assertEqual((steps_after((), ()), steps_cost((), [])), ((), 0))

    def test_wrong_steps(self):
        parts = ((A, B, C), (NAMES[3],))
        first = ("split", (A, B, C), (C,))
        here = ((A, B), (C,), (NAMES[3],))
        self.assertEqual(steps_after(parts, [first]), here)
        wrong = [None, 3, "ab", (), first, first + (0,), ("split", (A, B)), ("split", (A, B), ()), ("split", (A, B), (A,)),
                 ("split", (A, B), (A, B)), ("split", (A, B), (C,)), ("split", (A, B), (B, C)), ("split", (C,), (C,)),
                 ("join", (A, B), (A, B)), ("join", (C,), (A, B)), ("join", (A, B), (B,)), ("join", (A,), (B,)), ("join", (A, B), None),
                 ("Join", (A, B), (C,)), ("join", (A, B), ((0, 3), (0, 3))), ("join", ((False, 0), B), (C,)), (None, (A, B), (C,)),
                 ("split", (A, B), ((0, True),)), ("join", (B, A), (C,))]
        for step in wrong:
            for function in (steps_after, steps_cost):
                keeps(self, InvalidSteps, 1, function, parts, [first, step, None])
                keeps(self, InvalidSteps, 1, function, parts, (list(first), in_lists(step) if step else step))
        for value in (None, 3, "ab", True):
            keeps(self, InvalidSteps, -1, steps_after, parts, value)
            keeps(self, InvalidSteps, -1, steps_cost, parts, value)
        for function in (steps_after, steps_cost):
            keeps(self, InvalidPeople, -1, function, None, None)
            keeps(self, InvalidPeople, 1, function, ((A,), [B]), None)
            keeps(self, InvalidPeople, -1, function, [(A,)], None)

    def test_fewest_steps_between_all_parts(self):
        parts = all_parts(4)
        for one in parts:
            far, cost = distances(one, False), distances(one, True)
            for other in parts:
                above, below = above_parts(one, other), below_parts(one, other)
                self.assertTrue(same(above, min([row for row in parts if coarser(row, one) and coarser(row, other)],
                                                key=lambda row: -len(row))))
                self.assertTrue(same(below, form([set(group) & set(row) for group in one for row in other])))
                self.assertTrue(same(steps_height(one, other), far[other]))
                self.assertEqual(far[other], len(one) + len(other) - 2 * len(above))
                steps = fewest_steps(one, other)
                self.assertEqual(len(steps), far[other])
                self.assertEqual(steps_after(one, steps), other)
                self.assertIs(steps_hold(one, other, steps), True)
                steps = split_first(one, other)
                self.assertFalse(has_list(steps))
                words = [step[0] for step in steps]
                self.assertEqual(words, sorted(words, reverse=True))
                self.assertEqual(len(steps), 2 * len(below) - len(one) - len(other))
                self.assertEqual(steps_after(one, steps), other)
                self.assertEqual(steps_cost(one, steps), cost[other])
                self.assertEqual(cost[other], len(unlike_pairs(one, other)))
                for middle in parts:
                    between = distances(middle, False)[other] + far[middle] == far[other] if len(one) < 3 else None
                    if between is not None:
                        self.assertIs(is_between(one, middle, other), between)

    def test_split_first_is_fewest_of_its_kind(self):
        # All rows of steps with all splits ahead of all joins, by how far they come.
        parts = all_parts(4)
        for one in parts:
            found = {(one, "split"): 0}
            waiting = [(one, "split")]
            for here, word in waiting:
                for step, behind, _ in next_steps(here):
                    if (word, step[0]) != ("join", "split") and (behind, step[0]) not in found:
                        found[(behind, step[0])] = found[(here, word)] + 1
                        waiting.append((behind, step[0]))
            for other in parts:
                least = min(found[(other, word)] for word in ("split", "join") if (other, word) in found)
                self.assertEqual(len(split_first(one, other)), least)

    def test_between_and_beside(self):
        choice = chance(68)
        parts = all_parts(5)
        found = {}
        tables = {}
        for _ in range(500):
            one, middle, other = choice.choice(parts), choice.choice(parts), choice.choice(parts)
            if choice.random() < 0.7:
                middle = choice.choice([above_parts(one, other), below_parts(one, other), one, other]
                                       + [row for _, row, _ in next_steps(one)])
            for kind, function in ((False, is_between), (True, is_beside)):
                for start in (one, middle):
                    if (start, kind) not in tables:
                        tables[(start, kind)] = distances(start, kind)
                told = tables[(one, kind)][middle] + tables[(middle, kind)][other] == tables[(one, kind)][other]
                self.assertIs(function(one, middle, other), told)
                found[(kind, told)] = found.get((kind, told), 0) + 1
            above = above_parts(one, other)
            self.assertEqual(is_between(one, middle, other), len(middle) + len(above)
                             == len(above_parts(one, middle)) + len(above_parts(middle, other)))
            first, second, third = answers(one), answers(middle), answers(other)
            self.assertEqual(is_beside(one, middle, other),
                             all(second[pair] in (first[pair], third[pair]) for pair in first))
        self.assertGreater(min(found.values()), 60)

    def test_steps_hold(self):
        choice = chance(671)
        found = {True: 0, False: 0}
        for _ in range(200):
            names = NAMES[:choice.randint(1, 6)]
            one, other = some_parts(choice, names), some_parts(choice, names)
            steps = fewest_steps(one, other)
            here, row = one, []
            while here != other and choice.random() < 0.9:
                good = [step for step in next_steps(here) if steps_height(step[1], other) < steps_height(here, other)]
                step, here, _ = choice.choice(good)
                row.append(step)
            values = [tuple(row), split_first(one, other), steps + steps[-1:]] + changed_values(steps, choice, 12)
            if len(names) > 1:
                step, here, _ = choice.choice(next_steps(one))
                values.append((step,) + fewest_steps(here, other))
            for value in values:
                holds = steps_hold(one, other, value)
                self.assertIs(holds, self.plain_holds(one, other, value), (one, other, value))
                found[holds] += 1
        self.assertGreater(min(found.values()), 150)

    def plain_holds(self, one, other, value):
        if type(value) is not tuple or len(value) != len(fewest_steps(one, other)):
            return False
        for step in value:
            rows = [row for row in next_steps(one) if same(row[0], step)]
            if not rows:
                return False
            one = rows[0][1]
        return one == other

    def test_errors(self):
        parts, other = ((A, B),), ((A,), (C,))
        for function in TWO + [lambda one, two: steps_hold(one, two, ())]:
            keeps(self, InvalidPeople, 0, function, ((B, A),), None)
            keeps(self, InvalidPeople, -1, function, parts, [])
            keeps(self, Refused, "names", function, parts, other)
            keeps(self, Refused, "names", function, (), other)
        for function in THREE:
            keeps(self, InvalidPeople, 0, function, ((B, A),), None, None)
            keeps(self, InvalidPeople, -1, function, parts, [], None)
            keeps(self, InvalidPeople, -1, function, parts, other, None)
            keeps(self, Refused, "names", function, parts, parts, other)
            keeps(self, Refused, "names", function, parts, other, parts)
            keeps(self, Refused, "names", function, other, parts, parts)
        for value in odd_values():
            for function in TWO:
                check_ways(self, function, (value, parts))
                check_ways(self, function, (parts, value))
            for function in THREE:
                check_ways(self, function, (parts, value, parts))
            check_ways(self, steps_after, (value, ()))
            check_ways(self, steps_after, (parts, value))
            check_ways(self, steps_cost, (parts, value))
            self.assertIs(steps_hold(parts, parts, value), same(value, ()))
            self.assertIs(steps_hold(parts, ((A,), (B,)), (value,)), False)
        check_ways(self, steps_after, (parts, (("split", (A, B), (B,)),)), lists=(1,))
        check_ways(self, steps_cost, (parts, (("split", (A, B), (B,)),)), lists=(1,))
        self.assertEqual([function((), ()) for function in TWO], [(), (), 0, (), ()])


def coarser(above, parts):
    return all(any(set(group) <= set(row) for row in above) for group in parts)


def plain_ones(rows):
    told = [answers(parts) for parts in rows]
    return {pair: sum(row[pair] for row in told) for pair in told[0]}


def plain_judges(rows, value):
    """Whether any value is a paper of the judges, whatever makes it."""
    ones = plain_ones(rows)
    many = len(rows)
    if type(value) is not tuple or not value or type(value[0]) is not str:
        return False
    if value[0] == "chain" and len(value) == 2:
        names = value[1]
        if type(names) is not tuple or len(names) < 3 or len(set(map(repr, names))) < len(names):
            return False
        known = [repr(name) for group in rows[0] for name in group]
        if not all(repr(name) in known for name in names):
            return False
        pairs = [tuple(sorted(pair)) for pair in zip(names, names[1:])]
        return all(2 * ones[pair] > many for pair in pairs) and 2 * ones[tuple(sorted((names[0], names[-1])))] < many
    if value[0] != "whole" or len(value) != 3:
        return False
    alone = tuple(sorted((name,) for group in rows[0] for name in group))
    above = alone
    for pair in ones:
        if 2 * ones[pair] > many:
            above = above_parts(above, form([pair] + [group for group in alone if group[0] not in pair]))
    told = answers(above)
    if any(told[pair] and 2 * ones[pair] < many for pair in ones):
        return False
    return same(value[1], above) and same(value[2], sum(many - ones[pair] if told[pair] else ones[pair] for pair in ones))


class JudgesTest(unittest.TestCase):
    def test_by_hand(self):
        rows = [((A, B), (C,)), ((A,), (B, C)), ((A, B, C),)]
        self.assertEqual(judges_paper(rows), ("chain", (A, B, C)))
        self.assertTrue(judges_hold(rows, ("chain", (C, B, A))))
        self.assertEqual(judges_paper([()]), ("whole", (), 0))
        self.assertEqual(judges_paper([((A, B),)]), ("whole", ((A, B),), 0))
        self.assertEqual(judges_paper([((A, B),), ((A,), (B,))]), ("whole", ((A,), (B,)), 1))
        # Just half is neither: within a group it may be.
        rows = [((A, B, C),), ((A, B, C),), ((A, B), (C,)), ((A,), (B, C))]
        self.assertEqual(judges_paper(rows), ("whole", ((A, B, C),), 4))
        self.assertFalse(judges_hold(rows, ("chain", (A, B, C))))
        # In a chain each next two are one for more than half of them, the ends for less than half.
        rows = [((A, B), (C,)), ((A, B), (C,)), ((A,), (B, C)), ((A,), (B, C))]
        self.assertFalse(judges_hold(rows, ("chain", (A, B, C))))
        rows = rows[:1] + [((A, B, C),)] + rows[2:3]
        self.assertEqual(judges_paper(rows), ("chain", (A, B, C)))
        rows = [((A, B, C),)] * 2 + [((A, B), (C,))] * 3 + [((A,), (B, C))] * 3
        self.assertEqual(judges_paper(rows), ("chain", (A, B, C)))
        self.assertTrue(judges_hold(rows, ("chain", (A, B, C))))
        self.assertFalse(judges_hold(rows, ("chain", (B, A, C))))
        rows = [((A, B, C),)] * 3 + [((A, B), (C,))] * 3
        self.assertFalse(judges_hold(rows, ("chain", (B, C, A))))

    def test_papers(self):
        choice = chance(681)
        kinds, found = {}, {True: 0, False: 0}
        for _ in range(300):
            names = NAMES[:choice.randint(0, 6)]
            rows = [some_parts(choice, names) for _ in range(choice.randint(1, 8))]
            if choice.random() < 0.6 and names:
                base = some_parts(choice, names) if choice.random() < 0.3 else (tuple(names),)
                rows = [choice.choice([base] + [row for _, row, _ in next_steps(base)]) for _ in range(choice.randint(1, 5))]
            paper = judges_paper(rows)
            kinds[paper[0]] = kinds.get(paper[0], 0) + 1
            self.assertFalse(has_list(paper))
            self.assertIs(judges_hold(rows, paper), True)
            self.assertTrue(plain_judges(rows, paper), (rows, paper))
            for value in changed_values(paper, choice, 10):
                holds = judges_hold(rows, value)
                self.assertIs(holds, bool(plain_judges(rows, value)), (rows, value))
                found[holds] += 1
                if holds:
                    self.assertEqual(value[0], paper[0])
        self.assertGreater(min(kinds.values()), 15)
        self.assertGreater(min(found.values()), 10)

    def test_it_holds(self):
        choice = chance(682)
        parts = all_parts(5)
        for _ in range(60):
            rows = [choice.choice(parts) for _ in range(choice.randint(1, 5))]
            if choice.random() < 0.5:
                rows = [choice.choice([rows[0]] + [row for _, row, _ in next_steps(rows[0])]) for _ in rows]
            ones = plain_ones(rows)
            bound = sum(min(many, len(rows) - many) for many in ones.values())
            sums = {row: sum(len(unlike_pairs(row, other)) for other in rows) for row in parts}
            self.assertGreaterEqual(min(sums.values()), bound)
            paper = judges_paper(rows)
            self.assertEqual(paper[0] == "whole", min(sums.values()) == bound)
            if paper[0] == "whole":
                self.assertEqual(sums[paper[1]], bound)
                self.assertEqual(paper[2], bound)

    def test_errors(self):
        for function in (judges_paper, lambda rows: judges_hold(rows, None)):
            for value in (None, 3, True, "ab", (), []):
                keeps(self, InvalidIndex, -1, function, value)
            for parts in (None, [], ((B, A),), ((A,), (A, B)), ((A, (0, True)),), 3, "ab"):
                keeps(self, InvalidIndex, 1, function, [((A,),), parts, None])
            keeps(self, Refused, "names", function, [((A,),), ((A,),), ((B,),)])
            keeps(self, InvalidIndex, 2, function, [((A,),), ((B,),), None])
        for value in odd_values():
            self.assertIs(judges_hold([((A, B),)], value), False)
            self.assertIs(judges_hold([((A, B),)], ("whole", value, 0)), False)
            self.assertIs(judges_hold([((A, B),)], ("whole", ((A, B),), value)), same(value, 0))
            self.assertIs(judges_hold([((A, B),)], ("chain", value)), False)
            check_ways(self, judges_paper, (value,))
            check_ways(self, judges_hold, (value, ("whole", (), 0)))
        self.assertTrue(same(judges_paper([((A,),)] * 2), judges_paper(rows=(((A,),),) * 2)))


if __name__ == "__main__":
    unittest.main()
