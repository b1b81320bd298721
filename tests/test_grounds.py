"""[16]: which fields are enough, and which are needful, for what a rule says of a row."""

import itertools
import unittest

from helpers import chance, check_ways, has_list, keeps, odd_values, same
from test_rules import RULE, plain_word, some_rule
from whoiswho.errors import InvalidRule, InvalidVerdicts
from whoiswho.grounds import enough_lots, needful_lots
from whoiswho.rules import possible_verdicts


def links_with(rule, row, places):
    """Whether it is a link, for all possible verdicts in some places, the others as they are."""
    choices = [possible_verdicts(field) if at in places else (row[at],) for at, field in enumerate(rule[0])]
    return {plain_word(rule, other) == "link" for other in itertools.product(*choices)}


def all_lots(many):
    return [lot for size in range(many + 1) for lot in itertools.combinations(range(many), size)]


def least(lots):
    return tuple(lot for lot in lots if not any(set(other) < set(lot) for other in lots))


class GroundsTest(unittest.TestCase):
    def test_by_hand(self):
        exact = ("exact", 0, 0, (0, 5, 0, -5))
        rule = ((exact, exact, ("exact", 0, 0, (0, 1, 0, 0))), 5, ())
        self.assertTrue(same(enough_lots(rule, ["like", "like", "like"]), ((0, 1),)))
        self.assertTrue(same(needful_lots(rule, ["like", "like", "like"]), ((0,), (1,))))
        self.assertTrue(same(needful_lots(rule, ["unlike", "unlike", "like"]), ((0, 1),)))
        self.assertTrue(same(enough_lots(rule, ["unlike", "unlike", "like"]), ((0,), (1,))))
        # Nothing can turn it: the empty lot is enough.
        never = ((exact,), 6, ())
        self.assertTrue(same(enough_lots(never, ["like"]), ((),)))
        self.assertTrue(same(needful_lots(never, ["like"]), ()))
        # Barred stays none, be it barred or not.
        barred = ((exact, exact), 5, (((1, "lacking"),),))
        self.assertTrue(same(enough_lots(barred, ["unlike", "lacking"]), ((0,), (1,))))
        self.assertTrue(same(needful_lots(barred, ["like", "lacking"]), ((1,),)))

    def test_against_all_lots(self):
        choice = chance(16)
        sizes = {}
        for _ in range(80):
            rule = some_rule(choice, 4)
            rows = list(itertools.product(*[possible_verdicts(field) for field in rule[0]]))
            for row in choice.sample(rows, min(4, len(rows))):
                many = len(row)
                lots = all_lots(many)
                enough = [lot for lot in lots if len(links_with(rule, row, [at for at in range(many) if at not in lot])) == 1]
                needful = [lot for lot in lots if len(links_with(rule, row, lot)) > 1]
                told, needs = enough_lots(rule, row), needful_lots(rule, row)
                self.assertTrue(same(told, least(enough)), (rule, row))
                self.assertTrue(same(needs, least(needful)), (rule, row))
                self.assertFalse(has_list((told, needs)))
                sizes[len(told)] = sizes.get(len(told), 0) + 1
                # Each kind is just what has a place in common with each of the other.
                self.assertEqual(enough, [lot for lot in lots if all(set(lot) & set(other) for other in needs)])
                self.assertEqual(needful, [lot for lot in lots if all(set(lot) & set(other) for other in told)])
        self.assertGreater(min(sizes[many] for many in (1, 2, 3)), 3)

    def test_errors_and_ways(self):
        for function in (enough_lots, needful_lots):
            keeps(self, InvalidRule, -1, function, None, None)
            keeps(self, InvalidRule, 2, function, RULE[:2] + (None,), None)
            keeps(self, InvalidVerdicts, -1, function, RULE, ("like",))
            keeps(self, InvalidVerdicts, 1, function, RULE, ("like", "near"))
            keeps(self, InvalidVerdicts, 0, function, RULE, (None, "near"))
            for value in odd_values():
                check_ways(self, function, (value, ("like", "like")))
                check_ways(self, function, (RULE, value))
                check_ways(self, function, (RULE, (value, "like")), lists=(1,))
            check_ways(self, function, (RULE, ("near", "like")), lists=(1,))


if __name__ == "__main__":
    unittest.main()
