"""[49]: what was chosen of each lot."""

import itertools
import unittest

from helpers import chance, changed_values, check_ways, keeps, odd_values, same
from whoiswho.choices import choice_holds, choice_paper
from whoiswho.errors import InvalidChoices, InvalidSize


def lots(many):
    return [lot for size in range(1, many + 1) for lot in itertools.combinations(range(many), size)]


def plain_split(chosen, one, other):
    return chosen[tuple(sorted({chosen[one], chosen[other]}))] != chosen[tuple(sorted(set(one) | set(other)))]


def by_order(row):
    return [(lot, min(lot, key=row.index)) for lot in lots(len(row))]


def plain_paper(many, choices):
    chosen = {tuple(lot): number for lot, number in choices}
    for one in lots(many):
        for other in lots(many):
            if plain_split(chosen, one, other):
                return ("split", one, other)
    rows = [row for row in itertools.permutations(range(many)) if all(chosen[lot] == n for lot, n in by_order(row))]
    assert len(rows) == 1
    return ("order", rows[0])


class ChoicesTest(unittest.TestCase):
    def check(self, many, choices, choice):
        paper = choice_paper(many, choices)
        self.assertTrue(same(paper, plain_paper(many, choices)))
        chosen = dict(choices)
        orders = [row for row in itertools.permutations(range(many)) if all(chosen[lot] == n for lot, n in by_order(row))]
        splits = {(one, other) for one in lots(many) for other in lots(many) if plain_split(chosen, one, other)}
        self.assertEqual(len(orders) == 1, not splits)
        self.assertTrue(choice_holds(many, choices, paper))
        if many <= 3:
            for row in itertools.permutations(range(many)):
                self.assertEqual(choice_holds(many, choices, ("order", row)), row in orders)
            for one in lots(many):
                for other in lots(many):
                    self.assertEqual(choice_holds(many, choices, ("split", one, other)), (one, other) in splits)
        for value in changed_values(paper, choice, 5):
            told = (type(value) is tuple and len(value) == 2 and value[0] == "order" and any(same(value[1], row)
                                                                                          for row in orders)) \
                or (type(value) is tuple and len(value) == 3 and value[0] == "split"
                    and any(same(value[1:], split) for split in splits))
            self.assertTrue(same(choice_holds(many, choices, value), told))

    def test_all_choices_of_three(self):
        choice = chance(49)
        for many in (1, 2, 3):
            every = lots(many)
            for numbers in itertools.product(*every):
                self.check(many, list(zip(every, numbers)), choice)

    def test_more_things(self):
        choice = chance(50)
        for _ in range(60):
            many = choice.randint(4, 5)
            row = list(range(many))
            choice.shuffle(row)
            choices = by_order(row)
            choice.shuffle(choices)
            for _ in range(choice.randint(0, 2)):
                at = choice.randrange(len(choices))
                choices[at] = (choices[at][0], choice.choice(choices[at][0]))
            self.check(many, choices, choice)
        self.assertEqual(choice_paper(6, by_order((5, 0, 4, 1, 3, 2))), ("order", (5, 0, 4, 1, 3, 2)))

    def test_errors(self):
        right = by_order((1, 0))
        for function in (choice_paper, lambda many, choices: choice_holds(many, choices, None)):
            for many in (0, 7, -1, True, None, "1", (1,)):
                with self.assertRaises(InvalidSize) as caught:
                    function(many, None)
                self.assertEqual(caught.exception.word, "many")
            for pair in [((), 0), ((0,), 1), ((1, 0), 0), ((0, 0), 0), ((0, 2), 0), ((0, True), 0), ((0, 1), True),
                         ((0, 1), None), ((0, 1),), ((0, 1), 0, 0), None, 0, ("0", 0), (0, 0), ((-1, 0), 0), right[0]]:
                for choices in ([right[0], pair, None], [right[0], pair] + right[1:]):
                    with self.assertRaises(InvalidChoices) as caught:
                        function(2, choices)
                    self.assertTrue(same(caught.exception.at, 1))
            for choices in (None, 0, "", True):
                with self.assertRaises(InvalidChoices) as caught:
                    function(2, choices)
                self.assertEqual(caught.exception.at, -1)
            for size in range(3):
                with self.assertRaises(InvalidChoices) as caught:
                    function(2, right[:size])
                self.assertEqual(caught.exception.at, size)
        keeps(self, InvalidChoices, 1, choice_paper, 1, [((0,), 0), ((0,), 0)])

    def test_odd_values_and_ways(self):
        choices = by_order((1, 0, 2))
        check_ways(self, choice_paper, (3, tuple(choices)), lists=(1,))
        broken = [pair if pair[0] != (0, 1, 2) else ((0, 1, 2), 2) for pair in choices]
        check_ways(self, choice_paper, (3, tuple(broken)), lists=(1,))
        for value in odd_values():
            for rows in (choices, broken):
                self.assertTrue(same(choice_holds(3, rows, value), False))
                for word in ("order", "split"):
                    self.assertFalse(choice_holds(3, rows, (word, value)))
                    self.assertFalse(choice_holds(3, rows, (word, value, value)))
                    self.assertFalse(choice_holds(3, rows, (word, value, (0, 1))))
            check_ways(self, choice_holds, (3, choices, value))
            check_ways(self, choice_paper, (value, choices))
            check_ways(self, choice_paper, (3, value))
        self.assertFalse(choice_holds(2, by_order((1, 0)), ("order", (True, False))))
        self.assertFalse(choice_holds(2, by_order((1, 0)), ["order", (1, 0)]))
        self.assertFalse(choice_holds(2, by_order((1, 0)), ("order", [1, 0])))


if __name__ == "__main__":
    unittest.main()
