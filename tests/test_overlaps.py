"""[7], [8]: tables that lead each row to one form, and what one pass leaves."""

import itertools
import unittest

from helpers import chance, changed_values, check_ways, has_list, keeps, odd_values, same
from whoiswho.errors import InvalidTable, Refused
from whoiswho.forms import all_forms, one_pass, row_form, row_places, row_size, steps_end
from whoiswho.overlaps import form_gap, form_holds, form_paper, overlap_rows, pass_gap

ONE_TABLE = [overlap_rows, form_paper, pass_gap]


def words(text):
    return tuple(text.split())


def table_of(*rules):
    return tuple((words(left), words(right)) for left, right in rules)


def all_rows(signs, most, least=0):
    return [row for many in range(least, most + 1) for row in itertools.product(signs, repeat=many)]


def some_table(choice, signs, rules, most):
    """A right table of some rules, as many at the most."""
    table = {}
    for _ in range(20 * rules):
        if len(table) == rules:
            break
        left, right = (tuple(choice.choice(signs) for _ in range(choice.randint(1, most))) for _ in range(2))
        if row_size(right) < row_size(left):
            table[left] = right
    return tuple(table.items())


def plain_overlaps(table):
    found = []
    for rule, (left, _) in enumerate(table):
        for other, (second, _) in enumerate(table):
            for place in range(len(left)):
                if place == 0 and (rule == other or len(second) > len(left)):
                    continue
                cells = dict(enumerate(left))
                if all(cells.setdefault(place + at, word) == word for at, word in enumerate(second)):
                    found.append((tuple(cells[at] for at in sorted(cells)), rule, place, other))
    return tuple(sorted(found))


def plain_steps(table, row, steps):
    """The row behind any value, if it is steps in tuples, or None."""
    if type(steps) is not tuple:
        return None
    for step in steps:
        if type(step) is not tuple or len(step) != 2 or not all(type(part) is int for part in step):
            return None
        if step not in row_places(table, row):
            return None
        row = steps_end(table, row, (step,))
    return row


def plain_holds(table, value):
    if type(value) is not tuple or not value or type(value[0]) is not str:
        return False
    if value[0] == "split" and len(value) == 4:
        row = value[1]
        if type(row) is not tuple or not all(type(word) is str and word.isalnum() and word.islower() for word in row):
            return False
        ends = [plain_steps(table, row, steps) for steps in value[2:]]
        return None not in ends and ends[0] != ends[1] and not any(row_places(table, end) for end in ends)
    if value[0] != "one" or len(value) != 2 or type(value[1]) is not tuple:
        return False
    overlaps = plain_overlaps(table)
    if len(value[1]) != len(overlaps):
        return False
    for (row, rule, place, other), pair in zip(overlaps, value[1]):
        if type(pair) is not tuple or len(pair) != 2:
            return False
        ends = [plain_steps(table, row, steps) for steps in pair]
        if None in ends or ends[0] != ends[1] or not pair[0] or not pair[1]:
            return False
        if pair[0][0] != (0, rule) or pair[1][0] != (place, other):
            return False
    return True


class OverlapsTest(unittest.TestCase):
    def test_rows_by_hand(self):
        table = table_of(("a b", "a"), ("b a", "b"), ("b", "a"), ("a a a", "a"))
        self.assertEqual([row for row in overlap_rows(table) if row[0] == words("a b a")],
                         [(words("a b a"), 0, 1, 1)])
        self.assertEqual([row for row in overlap_rows(table) if row[0] == words("a b")],
                         [(words("a b"), 0, 1, 2)])
        self.assertEqual([row for row in overlap_rows(table) if row[0] == words("b a")],
                         [(words("b a"), 1, 0, 2)])
        self.assertEqual([row for row in overlap_rows(table) if row[1] == row[3]],
                         [(words("a a a a"), 3, 1, 3), (words("a a a a a"), 3, 2, 3)])
        self.assertEqual([overlap_rows(()), overlap_rows(table_of(("b", "a")))], [(), ()])

    def test_rows(self):
        choice = chance(7)
        for _ in range(200):
            table = some_table(choice, ["a", "b", "bb"], choice.randint(0, 4), 4)
            self.assertTrue(same(overlap_rows(table), plain_overlaps(table)))

    def test_papers(self):
        choice = chance(71)
        kinds, found = {}, {True: 0, False: 0}
        for _ in range(250):
            table = some_table(choice, ["a", "b", "c"], choice.randint(1, 3), choice.choice([2, 3]))
            paper = form_paper(table)
            kinds[paper[0]] = kinds.get(paper[0], 0) + 1
            self.assertFalse(has_list(paper))
            self.assertIs(form_holds(table, paper), True)
            self.assertTrue(plain_holds(table, paper))
            split = [row for row in all_rows("abc", 4) if len(all_forms(table, row)) > 1]
            if paper[0] == "one":
                self.assertEqual(split, [])
            else:
                self.assertIn(row_form(table, paper[1]), all_forms(table, paper[1]))
                self.assertGreater(len(all_forms(table, paper[1])), 1)
            for value in changed_values(paper, choice, 12):
                holds = form_holds(table, value)
                self.assertIs(holds, bool(plain_holds(table, value)), (table, value))
                found[holds] += 1
                if holds:
                    self.assertEqual(value[0], paper[0])
        self.assertGreater(min(kinds.values()), 50)
        self.assertGreater(min(found.values()), 30)

    def test_papers_by_hand(self):
        table = table_of(("b", "a"), ("b c", "a c"))
        self.assertEqual(form_paper(table), ("one", ((((0, 1),), ((0, 0),)),)))
        split = table_of(("a b", "a"), ("b a", "b"))
        self.assertEqual(form_paper(split)[:2], ("split", words("a b a")))
        for value in [("split", ["a", "b", "a"], ((0, 0),), ((1, 1),)), ("split", words("a b a"), ((0, 0),), ((0, 0),)),
                      ("split", words("a b a"), (), ((1, 1),)), ("split", words("A b a"), ((0, 0),), ((1, 1),)),
                      ("split", words("a b a"), ((0, False),), ((1, 1),)), ("split", words("a b a"), [(0, 0)], ((1, 1),)),
                      ("one", ()), ("one", ((((0, 0),), ((1, 1),)),)), ("one",), ("split",), None]:
            self.assertFalse(form_holds(split, value), value)
        # A split may be shown by any row, and steps may go on for long; a paper's ends may have a left still.
        long = words("c a b a")
        ends = [(1, 0)], [(2, 1)]
        first = plain_steps(split, long, tuple(ends[0]))
        self.assertEqual(row_places(split, first), ())
        second = plain_steps(split, long, tuple(ends[1]))
        more = row_places(split, second)
        self.assertEqual(form_holds(split, ("split", long, ((1, 0),), ((2, 1),) + more[:1])),
                         steps_end(split, second, more[:1]) != first)
        self.assertTrue(form_holds(table_of(("b", "a")), ("one", ())))
        loose = table_of(("b b", "b"),)
        self.assertTrue(form_holds(loose, ("one", ((((0, 0),), ((1, 0),)),))))
        self.assertFalse(form_holds(loose, ("one", ((((0, 0),), ((0, 0),)),))))
        self.assertFalse(form_holds(loose, ("one", ((((1, 0),), ((1, 0),)),))))
        self.assertFalse(form_holds(loose, ("one", (((), ()),))))

    def test_one_or_split_is_told_for_all_rows(self):
        # All tables of two rules over two words, lefts of two words at most.
        rows = all_rows("ab", 2, 1)
        rules = [(left, right) for left in rows for right in rows if row_size(right) < row_size(left)]
        kinds = set()
        for table in itertools.combinations(rules, 2):
            if table[0][0] != table[1][0]:
                one = all(len(all_forms(table, row)) == 1 for row in all_rows("ab", 5))
                self.assertEqual(form_paper(table)[0] == "one", one, table)
                kinds.add(one)
        self.assertEqual(kinds, {True, False})


class PassTest(unittest.TestCase):
    def test_by_hand(self):
        self.assertIsNone(pass_gap(()))
        self.assertIsNone(pass_gap(table_of(("b", "a"))))
        self.assertEqual(pass_gap(table_of(("c", "b"), ("b", "a"))), words("c"))
        self.assertEqual(pass_gap(table_of(("a b", "c"), ("c b", "d"))), words("a b b"))
        self.assertEqual(pass_gap(table_of(("b b", "b"))), words("b b b"))
        self.assertEqual(pass_gap(table_of(("bb", "b"), ("a b", "a"))), words("a bb"))
        # Side by side pieces may be read otherwise: no pass leaves a left here.
        table = table_of(("a b", "c"), ("c d", "e"))
        self.assertEqual(pass_gap(table), words("a b d"))
        self.assertIsNone(pass_gap(table + table_of(("a b d", "e"))))

    def test_against_all_rows(self):
        choice = chance(8)
        found = {True: 0, False: 0}
        for _ in range(150):
            most = choice.choice([1, 2, 2, 3])
            table = some_table(choice, ["a", "b", "c"][:choice.randint(2, 3)], choice.randint(0, 3), most)
            signs = sorted({word for rule in table for row in rule for word in row}) or ["a"]
            longest = max([len(left) for left, _ in table], default=1)
            gap = pass_gap(table)
            rows = sorted(all_rows(signs, 6 if len(signs) < 3 else 5), key=row_size)
            gaps = [row for row in rows if row_places(table, one_pass(table, row))]
            if gap is None:
                self.assertEqual(gaps, [])
            else:
                self.assertTrue(row_places(table, one_pass(table, gap)))
                self.assertLessEqual(len(gap), longest ** 2)
                if gaps or len(gap) <= (6 if len(signs) < 3 else 5):
                    self.assertTrue(same(gap, gaps[0]), table)
            found[gap is None] += 1
        self.assertGreater(min(found.values()), 20)

    def test_great_tables(self):
        choice = chance(81)
        for _ in range(20):
            table = some_table(choice, ["a", "b", "c", "d"], 12, 4)
            gap = pass_gap(table)
            if gap is not None:
                self.assertTrue(row_places(table, one_pass(table, gap)))
            form_paper(table)


class GapTest(unittest.TestCase):
    def test_by_hand(self):
        one, other = table_of(("c", "b"), ("b", "a")), table_of(("c", "a"), ("b", "a"))
        self.assertIsNone(form_gap(one, other))
        self.assertEqual(form_gap(one, table_of(("c", "a"))), words("b"))
        self.assertEqual(form_gap((), table_of(("c b", "a"), ("d", "a"))), words("d"))
        self.assertIsNone(form_gap((), ()))

    def test_against_all_rows(self):
        choice = chance(82)
        found = {True: 0, False: 0}
        tables = []
        while len(tables) < 60:
            table = some_table(choice, ["a", "b"], choice.randint(0, 3), 3)
            if form_paper(table)[0] == "one":
                tables.append(table)
        for one in tables[:30]:
            for other in tables[30:]:
                gap = form_gap(one, other)
                unlike = [row for row in all_rows("ab", 4) if row_form(one, row) != row_form(other, row)]
                self.assertEqual(gap is None, unlike == [])
                lefts = sorted([rule[0] for rule in one + other], key=row_size)
                told = [left for left in lefts if row_form(one, left) != row_form(other, left)]
                self.assertTrue(same(gap, told[0] if told else None))
                found[gap is None] += 1
        self.assertGreater(min(found.values()), 20)

    def test_errors(self):
        good, split = table_of(("b", "a")), table_of(("a b", "a"), ("b a", "b"))
        keeps(self, Refused, 0, form_gap, split, split)
        keeps(self, Refused, 1, form_gap, good, split)
        keeps(self, InvalidTable, 1, form_gap, split, good + (None,))
        for value in [None, 3, "ab", table_of(("b", "a")) * 13]:
            keeps(self, InvalidTable, -1, form_gap, value, 3)
            keeps(self, InvalidTable, -1, form_gap, good, value)
            keeps(self, InvalidTable, -1, form_holds, value, ())
            for function in ONE_TABLE:
                keeps(self, InvalidTable, -1, function, value)
        for rule in [None, (("b",), ()), (("a",), ("b",)), ((), ()), (("b",), ("a",)), (("B",), ("a",)), (("d",),)]:
            for function in ONE_TABLE:
                keeps(self, InvalidTable, 1, function, good + (rule, None))

    def test_any_value_and_ways(self):
        table = table_of(("a b", "a"), ("b a", "b"))
        confluent = table_of(("b b", "b"),)
        for value in odd_values():
            self.assertIs(form_holds(table, value), False)
            for word in ("one", "split"):
                self.assertIs(form_holds(table, (word, value)), False)
                self.assertIs(form_holds(table, (word, value, ((0, 0),), ((1, 1),))), False)
                self.assertIs(form_holds(table, (word, words("a b a"), value, ((1, 1),))), False)
            self.assertIs(form_holds(confluent, ("one", (value,))), False)
            check_ways(self, form_holds, (value, ("one", ())))
            check_ways(self, form_gap, (value, table))
            check_ways(self, form_gap, ((), value))
            for function in ONE_TABLE:
                check_ways(self, function, (value,))
        choice = chance(83)
        for _ in range(20):
            table = some_table(choice, ["a", "b"], 2, 3)
            for function in ONE_TABLE:
                check_ways(self, function, (table,), lists=(0,))
            check_ways(self, form_holds, (table, form_paper(table)), lists=(0,))
            check_ways(self, form_gap, (table, ()), lists=(0, 1))


if __name__ == "__main__":
    unittest.main()
