"""[6]: rows, tables, steps, forms."""

import itertools
import unittest

from helpers import chance, check_ways, keeps, odd_values
from whoiswho.errors import InvalidRow, InvalidSteps, InvalidTable
from whoiswho.forms import all_forms, one_pass, row_form, row_places, steps_end

FUNCTIONS = [row_places, row_form, all_forms, one_pass]


def size(row):
    return (len(row), sum(map(len, row)), tuple(row))


def plain_places(table, row):
    return tuple((place, rule) for place in range(len(row)) for rule, (left, _) in enumerate(table)
                 if tuple(row[place:place + len(left)]) == tuple(left))


def plain_step(table, row, step):
    place, rule = step
    left, right = table[rule]
    return tuple(row[:place]) + tuple(right) + tuple(row[place + len(left):])


def plain_forms(table, row):
    seen, waiting = {tuple(row)}, [tuple(row)]
    while waiting:
        here = waiting.pop()
        for step in plain_places(table, here):
            behind = plain_step(table, here, step)
            if behind not in seen:
                seen.add(behind)
                waiting.append(behind)
    return tuple(sorted(here for here in seen if not plain_places(table, here)))


def plain_pass(table, row):
    out, at = [], 0
    while at < len(row):
        lefts = [rule for place, rule in plain_places(table, row) if place == at]
        if lefts:
            rule = max(lefts, key=lambda rule: len(table[rule][0]))
            out += table[rule][1]
            at += len(table[rule][0])
        else:
            out.append(row[at])
            at += 1
    return tuple(out)


def some_table(choice, words, rules, longest):
    table, lefts = [], set()
    for _ in range(rules):
        left = tuple(choice.choice(words) for _ in range(choice.randint(1, longest)))
        right = tuple(choice.choice(words) for _ in range(choice.randint(1, longest)))
        if left not in lefts and size(right) < size(left):
            lefts.add(left)
            table.append((left, right))
    return tuple(table)


class FormsTest(unittest.TestCase):
    def test_told_by_hand(self):
        table = ((("b", "a"), ("a", "b")), (("st",), ("s",)), (("a", "b", "c"), ("c",)))
        self.assertEqual(row_places(table, ("b", "a", "st", "b", "a")), ((0, 0), (2, 1), (3, 0)))
        self.assertEqual(row_places(table, ()), ())
        self.assertEqual(steps_end(table, ["b", "a", "c"], [(0, 0), [0, 2]]), ("c",))
        self.assertEqual(steps_end(table, ["x"], []), ("x",))
        self.assertEqual(row_form(table, ("b", "a", "c")), ("c",))
        self.assertEqual(row_form((), ("b", "a")), ("b", "a"))
        self.assertEqual(one_pass(table, ("b", "b", "a", "a", "b", "c")), ("b", "a", "b", "c"))
        self.assertEqual(all_forms(((("a", "a"), ("b",)),), ("a", "a", "a")), (("a", "b"), ("b", "a")))

    def test_all_forms_go_by_words_alone(self):
        table = ((("a", "a"), ("zz",)), (("a", "zz"), ("b", "b")))
        self.assertEqual(all_forms(table, ("a", "a", "a")), (("b", "b"), ("zz", "a")))

    def test_longest_left_in_one_pass(self):
        table = ((("a",), ("0",)), (("a", "b"), ("1",)), (("a", "b", "c"), ("2", "2")))
        self.assertEqual(one_pass(table, ("a", "b", "c", "a", "b", "a", "c")), ("2", "2", "1", "0", "c"))

    def test_against_plain_ways(self):
        choice = chance(6)
        many = 0
        for _ in range(1500):
            words = choice.choice((["a", "b"], ["a", "b", "c"], ["a", "bb", "c", "0"]))
            table = some_table(choice, words, choice.randint(0, 5), choice.randint(1, 4))
            row = tuple(choice.choice(words) for _ in range(choice.randint(0, 7)))
            self.assertEqual(row_places(table, row), plain_places(table, row))
            forms = plain_forms(table, row)
            many += len(forms) > 1
            self.assertEqual(all_forms(table, row), forms)
            self.assertEqual(one_pass(table, row), plain_pass(table, row))
            here, steps = row, []
            while plain_places(table, here):
                steps.append(plain_places(table, here)[0])
                here = plain_step(table, here, steps[-1])
            self.assertEqual(row_form(table, row), here)
            self.assertEqual(steps_end(table, row, steps), here)
            self.assertIn(here, forms)
        self.assertGreater(many, 20)

    def test_all_small_rows(self):
        tables = [((("a", "b"), ("b",)), (("b", "a"), ("a",))), ((("b",), ("a",)), (("a", "a", "b"), ("b",))),
                  ((("a", "b", "a"), ("b", "b")), (("b", "b"), ("a",)), (("a", "a", "a"), ("a", "a")))]
        for table in tables:
            for length in range(7):
                for row in itertools.product("ab", repeat=length):
                    self.assertEqual(all_forms(table, row), plain_forms(table, row))

    def test_steps_in_any_order_end(self):
        choice = chance(66)
        for _ in range(100):
            table = some_table(choice, ["a", "b", "cc"], 5, 3)
            here = tuple(choice.choice(["a", "b", "cc"]) for _ in range(8))
            while plain_places(table, here):
                step = choice.choice(plain_places(table, here))
                behind = steps_end(table, here, [step])
                self.assertLess(size(behind), size(here))
                here = behind

    def test_many_rows_between(self):
        table = tuple(((left,), (right,)) for left, right in zip("fedcb", "edcba"))
        self.assertEqual(all_forms(table, ("f",) * 10), (("a",) * 10,))

    def test_wrong_tables(self):
        right = (("b",), ("a",))
        wrong = [(("a",), ("b",)), (("a",), ("a",)), (("a",), ()), ((), ()), (("a", "b"), ("a", "c")), (("a",),),
                 (("a",), ("bb",)), (("B",), ("a",)), (("a", ""), ("a",)), ("b", "a"), (("b",), ("a",), ()), None, 3,
                 (("b", True), ("a",)), (("a", "b"), ("a", "b", "0")), (("b",), ("A",)), (("b", "b"), ("b", "")),
                 (("b", "b"), (None,)), (("b", "b"), "a"), (("b", "b"), None)]
        for function in FUNCTIONS:
            for rule in wrong:
                keeps(self, InvalidTable, 1, function, [right, rule], ["a"])
                keeps(self, InvalidTable, 0, function, [rule, right, rule], None)
            keeps(self, InvalidTable, 2, function, [right, (("c",), ("a",)), (["b"], ["0"])], ["a"])
            keeps(self, InvalidTable, -1, function, [right] * 13, ["a"])
            keeps(self, InvalidTable, 1, function, [right] * 12, ["a"])
            for value in (None, 3, "ab", True, right[0][0]):
                keeps(self, InvalidTable, -1, function, value, ["a"])
        twelve = [((word,), ("0",)) for word in "bcdefghijklm"]
        self.assertEqual(row_form(twelve, ["m", "b"]), ("0", "0"))

    def test_less_rows(self):
        for left, right in [(("b",), ("a",)), (("aa",), ("z",)), (("a", "a"), ("zzzz",)), (("b", "a"), ("a", "b")),
                            (("1",), ("0",)), (("a",), ("9",)), (("a", "bb"), ("aa", "b")), (("a", "b"), ("0", "z"))]:
            if size(right) < size(left):
                self.assertEqual(row_form([(left, right)], left), right)
            else:
                keeps(self, InvalidTable, 0, row_form, [(left, right)], left)

    def test_wrong_rows(self):
        for function in FUNCTIONS:
            for word in ("", "A", "a b", "-", None, 1, ["a"], "\u00e9", True):
                keeps(self, InvalidRow, 1, function, (), ["a", word, word])
            for value in (None, "ab", 0, True):
                keeps(self, InvalidRow, -1, function, (), value)
        keeps(self, InvalidRow, 0, steps_end, (), [""], None)

    def test_wrong_steps(self):
        table = [(("a", "b"), ("a",)), (("b",), ("0",))]
        for step in [(0, 1), (1, 0), (0, 2), (-1, 0), (0, -1), (0,), (0, 0, 0), None, "00", (True, 1), (1, True), (2, 0),
                     (0, False), (7, 0)]:
            keeps(self, InvalidSteps, 0, steps_end, table, ["a", "b"], [step, None])
            keeps(self, InvalidSteps, 1, steps_end, table, ["a", "b"], [(1, 1), step])
        for value in (None, 0, "", True):
            keeps(self, InvalidSteps, -1, steps_end, table, ["a", "b"], value)

    def test_odd_values_and_ways(self):
        table, row = ((("b", "a"), ("a", "b")),), ("b", "b", "a")
        for function in FUNCTIONS:
            check_ways(self, function, (table, row), lists=(0, 1))
            for value in odd_values():
                check_ways(self, function, (value, row))
                check_ways(self, function, (table, value))
        check_ways(self, steps_end, (table, row, ((1, 0), (0, 0))), lists=(0, 1, 2))
        for value in odd_values():
            check_ways(self, steps_end, (table, row, value))


if __name__ == "__main__":
    unittest.main()
