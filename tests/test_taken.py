"""[65]: which sames must be taken back so that two records are two."""

import itertools
import unittest

from helpers import chance, changed_values, check_ways, has_list, in_lists, keeps, odd_values, same
from test_deeds import plain_pair
from test_people import plain_run
from worlds import RULES, marks_of, plain_lot
from whoiswho.deeds import lot_records, lot_rule, lot_web, told_people
from whoiswho.errors import InvalidBook, InvalidIndex, InvalidLot, Refused
from whoiswho.rules import pair_likeness
from whoiswho.taken import taken_holds, taken_paper
from whoiswho.why import told_less

RULE = ((("edits", 0, 0, (0, 5, 2, -3)),), 5, ())
PUTS = tuple(("put", (text,)) for text in ("ann", "ann", "ben", "cid"))


def book_of(words):
    """A book of one house that does these words."""
    return (tuple(((number,), word) for number, word in enumerate(words)),)


BOOK = book_of(PUTS + (("rule", RULE), ("same", (0, 0), (0, 2)), ("same", (0, 1), (0, 2)), ("same", (0, 2), (0, 3))))


def some_book(choice):
    """Records of few pieces, sames said often, some of the words taken back; two puts."""
    words, texts = [], ["a", "a", "b", "c", "d", None]
    for _ in range(choice.randint(2, 6)):
        words.append(("put", (choice.choice(texts),)))
    puts = len(words)
    if choice.random() < 0.9:
        words.append(("rule", choice.choice([RULE, RULE, RULES[0], RULES[3]])))
    for _ in range(choice.randint(0, 9)):
        pair = tuple(sorted(choice.sample([(0, number) for number in range(puts)], 2)))
        words.append(("unlike" if choice.random() < 0.03 else "same",) + pair)
    for _ in range(choice.randint(0, 2)):
        words.append(("back", (0, choice.randrange(len(words)))) if choice.random() < 0.7 else ("change", (0, 0), ("b",)))
    words = [word for at, word in enumerate(words) if word[0] != "back" or words[word[1][1]][0] not in ("back", "day")]
    return book_of(words), choice.sample([(0, number) for number in range(puts)], 2)


def lot_of(book):
    return plain_lot(book, marks_of(tuple(map(len, book))))


def plain_refused(book, one, other):
    lot = lot_of(book)
    people = told_people(lot)
    if not any(one in group and other in group for group in people):
        return "two"
    names, links, _ = lot_web(lot)
    piece = [group for group in plain_run(names, links, ())[2] if one in group][0]
    for _, _, word in lot:
        if word[0] == "unlike" and set(word[1:]) <= set(piece):
            return "bars"
    rule = lot_rule(lot)
    for (first, ones), (second, others) in itertools.combinations(lot_records(lot), 2):
        if first in piece and second in piece and rule and pair_likeness(rule, ones, others)[0] == "barred":
            return "bars"
    return None


def rule_links(book):
    lot = lot_of(book)
    rule = lot_rule(lot)
    return [(one[0], other[0]) for one, other in itertools.combinations(lot_records(lot), 2)
            if rule and pair_likeness(rule, one[1], other[1])[0] == "link"]


def plain_places(book):
    """For each record what the rule's links tie it to; the sames that stand."""
    lot = lot_of(book)
    names = tuple(name for name, _ in lot_records(lot))
    groups = plain_run(names, [(1,) + pair for pair in rule_links(book)], ())[2]
    return {name: group for group in groups for name in group}, {mark: word[1:] for mark, _, word in lot if word[0] == "same"}


def plain_walk(places, deeds, start, chain):
    here = start
    for mark in chain:
        ends = [places.get(name) for name in deeds[mark]]
        if None in ends or ends[0] == ends[1] or here not in ends:
            return None
        here = ends[1 - ends.index(here)]
    return here


def plain_holds(book, one, other, value):
    if type(value) is not tuple or len(value) < 2 or type(value[0]) is not str:
        return False
    places, deeds = plain_places(book)
    if value[0] == "never":
        links = rule_links(book)
        return len(value) == 2 and type(value[1]) is tuple and len(value[1]) > 0 and all(map(plain_pair, value[1])) and \
            (value[1][0], value[1][-1]) == (one, other) and all(tuple(sorted(step)) in links for step in zip(value[1], value[1][1:]))
    if value[0] != "fewest" or len(value) != 3 or type(value[1]) is not tuple or type(value[2]) is not tuple:
        return False
    _, marks, chains = value
    if not all(plain_pair(mark) and mark in deeds for mark in marks) or list(marks) != sorted(set(marks)) or len(chains) != len(marks):
        return False
    if not all(type(chain) is tuple and all(plain_pair(mark) and mark in deeds for mark in chain) for chain in chains):
        return False
    if len(set(itertools.chain(*chains))) < sum(map(len, chains)):
        return False
    if any(one in group and other in group for group in told_less(book, marks)):
        return False
    return all(plain_walk(places, deeds, places[one], chain) == places[other] for chain in chains)


class TakenTest(unittest.TestCase):
    def test_papers(self):
        choice = chance(65)
        found = {"two": 0, "bars": 0, "never": 0, "fewest": 0}
        sizes = {}
        for _ in range(500):
            book, (one, other) = some_book(choice)
            refused = plain_refused(book, one, other)
            if refused is not None:
                found[refused] += 1
                keeps(self, Refused, refused, taken_paper, book, one, other)
                keeps(self, Refused, refused, taken_holds, book, one, other, None)
                continue
            paper = taken_paper(book, one, other)
            found[paper[0]] += 1
            self.assertTrue(plain_holds(book, one, other, paper), (book, one, other, paper))
            self.assertIs(taken_holds(book, one, other, paper), True)
            self.assertFalse(has_list(paper))
            for value in changed_values(paper, choice, 8):
                self.assertIs(taken_holds(book, one, other, value), plain_holds(book, one, other, value), (book, one, other, value))
            sames = [mark for mark, _, word in lot_of(book) if word[0] == "same"]
            if paper[0] == "fewest":
                sizes[len(paper[1])] = sizes.get(len(paper[1]), 0) + 1
                for lot in itertools.combinations(sames, len(paper[1]) - 1):
                    self.assertTrue(any(one in group and other in group for group in told_less(book, lot)))
                for lot in itertools.combinations(sames, len(paper[1])):
                    value = ("fewest", lot, paper[2])
                    self.assertIs(taken_holds(book, one, other, value), plain_holds(book, one, other, value))
            else:
                self.assertTrue(any(one in group and other in group for group in told_less(book, sames)))
        self.assertGreater(min(found.values()), 20)
        self.assertGreater(min(sizes[many] for many in (1, 2, 3)), 8)

    def test_by_hand(self):
        self.assertEqual(taken_paper(BOOK, (0, 0), (0, 1)), ("never", ((0, 0), (0, 1))))
        paper = taken_paper(BOOK, (0, 0), (0, 2))
        self.assertEqual(paper[:2], ("fewest", ((0, 5), (0, 6))))
        self.assertEqual(sorted(paper[2]), [((0, 5),), ((0, 6),)])
        ways = [("fewest", ((0, 7),), ((mark, (0, 7)),)) for mark in ((0, 5), (0, 6))]
        self.assertIn(taken_paper(BOOK, (0, 0), (0, 3)), ways)
        self.assertIs(taken_holds(BOOK, (0, 0), (0, 3), ("fewest", ((0, 7),), (((0, 6), (0, 7)),))), True)
        # Each deed goes on from where the one ahead has led.
        self.assertIs(taken_holds(BOOK, (0, 3), (0, 0), ("fewest", ((0, 7),), (((0, 5),),))), False)
        self.assertIs(taken_holds(BOOK, (0, 3), (0, 0), ("fewest", ((0, 7),), (((0, 7), (0, 5)),))), True)
        # A place may come twice, a deed may not; a deed within one place leads nowhere.
        self.assertIs(taken_holds(BOOK, (0, 0), (0, 3), ("fewest", ((0, 7),), (((0, 5), (0, 6), (0, 5), (0, 7)),))), False)
        longer = book_of([word for _, word in BOOK[0]] + [("same", (0, 0), (0, 2)), ("same", (0, 0), (0, 1))])
        self.assertIs(taken_holds(longer, (0, 0), (0, 3), ("fewest", ((0, 7),), (((0, 5), (0, 6), (0, 8), (0, 7)),))), True)
        self.assertIs(taken_holds(longer, (0, 0), (0, 3), ("fewest", ((0, 7),), (((0, 9), (0, 8), (0, 7)),))), False)
        self.assertEqual(len(taken_paper(longer, (0, 1), (0, 2))[1]), 3)
        # A way may come by a record twice, if each two next ones are linked.
        self.assertIs(taken_holds(BOOK, (0, 0), (0, 1), ("never", ((0, 0), (0, 1), (0, 0), (0, 1)))), True)
        self.assertIs(taken_holds(BOOK, (0, 0), (0, 1), ("never", ((0, 0), (0, 2), (0, 1)))), False)
        self.assertIs(taken_holds(BOOK, (0, 0), (0, 1), ("fewest", (), ())), False)
        # Without a rule each record is a place.
        self.assertEqual(taken_paper(book_of(PUTS[:2] + (("same", (0, 0), (0, 1)),)), (0, 1), (0, 0)), ("fewest", ((0, 2),), (((0, 2),),)))
        # A same that names a record that was taken back leads nowhere.
        gone = book_of([word for _, word in BOOK[0]] + [("back", (0, 2))])
        keeps(self, Refused, "two", taken_paper, gone, (0, 0), (0, 3))
        self.assertEqual(taken_paper(gone, (0, 0), (0, 1))[0], "never")
        # Bars of the rule count, also where a same stands.
        barred = book_of(PUTS[:3] + (("rule", (RULE[0], 5, (((0, "unlike"),),))), ("same", (0, 0), (0, 2)), ("same", (0, 1), (0, 2))))
        keeps(self, Refused, "bars", taken_paper, barred, (0, 0), (0, 1))
        self.assertEqual(told_people(lot_of(barred)), (((0, 0), (0, 1), (0, 2)),))
        # But for those of other pieces.
        other = book_of(PUTS + (("rule", RULE), ("unlike", (0, 2), (0, 3))))
        self.assertEqual(taken_paper(other, (0, 0), (0, 1))[0], "never")

    def test_errors(self):
        for function, rest in ((taken_paper, ()), (taken_holds, (None,))):
            for value in odd_values():
                if not same(value, ((),)):
                    keeps(self, InvalidBook, 0 if type(value) is tuple and value else -1, function, value, None, None, *rest)
                for at in range(3):
                    args = [BOOK, (0, 0), (0, 1)]
                    args[at] = value
                    check_ways(self, function, tuple(args) + rest)
            for mark in (None, 3, (0,), [0, 0], (0, 4), (0, 9), (1, 0), (0, True), "ab"):
                keeps(self, InvalidIndex, 0, function, BOOK, mark, None, *rest)
                keeps(self, InvalidIndex, 1, function, BOOK, (0, 0), mark, *rest)
            keeps(self, InvalidIndex, 1, function, BOOK, (0, 0), (0, 0), *rest)
            odd = book_of(PUTS + (("put", ()),))
            keeps(self, InvalidLot, 4, function, odd, (0, 0), (0, 1), *rest)
            keeps(self, InvalidIndex, 1, function, odd, (0, 0), (0, 5), *rest)
        for value in odd_values():
            self.assertIs(taken_holds(BOOK, (0, 0), (0, 1), value), False)
            self.assertIs(taken_holds(BOOK, (0, 0), (0, 3), ("fewest", value, (((0, 5), (0, 7)),))), False)
        paper = taken_paper(BOOK, (0, 0), (0, 3))
        self.assertIs(taken_holds(BOOK, (0, 0), (0, 3), in_lists(paper)), False)
        self.assertIs(taken_holds(value=paper, other=(0, 3), one=(0, 0), book=BOOK), True)


if __name__ == "__main__":
    unittest.main()
