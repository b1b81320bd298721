"""[54] to [56]: books, what stands in them, their short forms."""

import unittest

from helpers import chance, changed_values, check_ways, in_lists, keeps, odd_values, same
from whoiswho.best import Likes
from whoiswho.books import book_vector, closed_fault, compact_book, compact_do, deed_rank, gap_books, is_mark
from whoiswho.books import join_compact, lower_book, need_book, standing_marks, standing_words, told_word
from whoiswho.errors import InvalidBook, InvalidDeed, InvalidIndex, InvalidState, InvalidVector, NoHouse, Refused
from worlds import joined, some_word, some_world

BOOK = ((((0, 0), ("put", ("ann",))), ((1, 1), ("back", (1, 0)))), (((1, 0), ("change", (0, 0), ("anna",))),))
ONE_BOOK = [book_vector, closed_fault, standing_marks, standing_words, compact_book]


def is_num(value):
    return type(value) is int and value >= 0


def plain_mark(value):
    return type(value) is tuple and len(value) == 2 and is_num(value[0]) and is_num(value[1])


def no_lists(value):
    return not isinstance(value, list) and (not isinstance(value, tuple) or all(map(no_lists, value)))


def plain_word(value):
    if type(value) is not tuple or not value or type(value[0]) is not str:
        return False
    word, rest = value[0], value[1:]
    if word in ("put", "rule", "day"):
        return len(rest) == 1 and type(rest[0]) is tuple and no_lists(rest)
    if word == "change":
        return len(rest) == 2 and plain_mark(rest[0]) and type(rest[1]) is tuple and no_lists(rest)
    if word in ("same", "unlike"):
        return len(rest) == 2 and all(map(plain_mark, rest)) and rest[0] < rest[1]
    return word == "back" and len(rest) == 1 and plain_mark(rest[0])


def plain_named(word):
    return {"change": word[1:2], "same": word[1:], "unlike": word[1:], "back": word[1:]}.get(word[0], ())


def plain_fault(value):
    """What InvalidBook keeps, or None for a book."""
    if type(value) is not tuple or not 1 <= len(value) <= 8:
        return -1
    houses = len(value)
    for house, row in enumerate(value):
        if type(row) is not tuple:
            return house
        for number, deed in enumerate(row):
            if type(deed) is not tuple or len(deed) != 2 or type(deed[0]) is not tuple or len(deed[0]) != houses:
                return house
            if not all(map(is_num, deed[0])) or deed[0][house] != number or not plain_word(deed[1]):
                return house
    for house, row in enumerate(value):
        for seen, word in row:
            for mark in plain_named(word):
                if mark[0] >= houses or mark[1] >= seen[mark[0]]:
                    return house
                if mark[1] < len(value[mark[0]]):
                    named = value[mark[0]][mark[1]][1][0]
                    if (named != "put") if word[0] != "back" else (named in ("back", "day")):
                        return house
            for other in range(houses):
                for deed in value[other][:seen[other]]:
                    if any(mine < theirs for mine, theirs in zip(seen, deed[0])):
                        return house
    return None


class NeedBookTest(unittest.TestCase):
    def check(self, value):
        fault = plain_fault(value)
        if fault is None:
            self.assertIs(need_book(value), value)
        else:
            keeps(self, InvalidBook, fault, need_book, value)
        return fault

    def test_worlds_and_their_parts_are_books(self):
        choice = chance(54)
        for _ in range(60):
            book, vectors = some_world(choice, choice.randint(1, 4), choice.randint(0, 17))
            self.assertIsNone(self.check(book))
            self.assertIsNone(closed_fault(book))
            for vector in vectors[-4:]:
                self.assertIsNone(self.check(lower_book(book, vector)))
            cut = tuple(row[:choice.randint(0, len(row))] for row in book)
            self.assertIsNone(self.check(cut))

    def test_changed_books(self):
        choice = chance(541)
        faults = set()
        for _ in range(150):
            book, _ = some_world(choice, choice.randint(1, 3), choice.randint(1, 10))
            for value in changed_values(book, choice, 12):
                faults.add(self.check(value))
        self.assertLessEqual({None, -1, 0, 1, 2}, faults)

    def test_wrong_deeds_by_hand(self):
        put, back = ("put", ()), ("back", (0, 0))
        first = ((0, 0), put)
        for word in [("put",), ("put", []), ("put", ((), [1])), ("put", (), ()), ("put", "a"), ("puts", ()), (), None, "put",
                     ("change", (0, 0)), ("change", [0, 0], ()), ("change", (0, 0), None), ("same", (0, 0), (0, 0)),
                     ("unlike", (0, 1), (0, 0)), ("same", (0, 0)), ("back", 0), ("back", (0, True)), ("rule", None),
                     ("day", [(0, 0)]), ("back", (0, 0), ()), ["put", ()], (["put"], ()), (Likes(1, (), ()), ())]:
            keeps(self, InvalidBook, 0, need_book, ((first, ((1, 0), word)), None))
            keeps(self, InvalidBook, 1, need_book, ((first,), (((1, 0), word),)))
        for seen in [(1, 0), (0,), (0, 0, 0), (0, -1), (True, 0), [0, 0], None, (0, None)]:
            keeps(self, InvalidBook, 0, need_book, (((seen, put),), ()))
        # The form of all rows is looked at ahead of what deeds name.
        keeps(self, InvalidBook, 1, need_book, ((((0, 0), back),), ((1, put),)))
        keeps(self, InvalidBook, 1, need_book, ((((0, 0), back),), (((0, 5), put),)))
        keeps(self, InvalidBook, 0, need_book, ((((0, 0), back),), ()))
        keeps(self, InvalidBook, 0, need_book, ((((0, 3), ("back", (1, 3))),), ()))
        keeps(self, InvalidBook, 0, need_book, ((((0, 3), ("back", (2, 0))),), ()))
        self.assertIsNone(self.check(((((0, 3), ("back", (1, 2))),), ())))
        self.assertIsNone(self.check(((((0, 3), ("same", (1, 0), (1, 2))),), ())))
        for word in (("rule", ()), ("back", (1, 0)), ("day", ())):
            other = (((0, 0), ("put", ())), ((0, 1), word))
            for naming in (("change", (1, 1), ()), ("same", (1, 0), (1, 1)), ("unlike", (1, 0), (1, 1))):
                self.assertEqual(self.check(((((0, 2), naming),), other)), 0)
            self.assertEqual(self.check(((((0, 2), ("back", (1, 1))),), other)), None if word[0] == "rule" else 0)
        # A deed that has seen a deed must have seen all that this one had.
        self.assertEqual(self.check(((((0, 1), put),), (((2, 0), put),))), 0)
        self.assertEqual(self.check(((((0, 2), put),), (((0, 0), put), ((0, 1), put)))), None)
        self.assertEqual(self.check(((((0, 0, 1), put),), (), (((0, 4, 0), put),))), 0)
        self.assertEqual(self.check(((((0, 4, 1), put),), (), (((0, 4, 0), put),))), None)
        self.assertEqual(self.check(((((0, 1), put), ((1, 0), put)), ())), 0)

    def test_sizes(self):
        self.assertEqual(need_book(((),) * 8), ((),) * 8)
        for value in ((), ((),) * 9, [()], None, 3, "a", True):
            keeps(self, InvalidBook, -1, need_book, value)
        for at, value in enumerate([([],), ((), []), ((), (), "a")]):
            keeps(self, InvalidBook, at, need_book, value)

    def test_any_value(self):
        for value in odd_values():
            fault = plain_fault(value)
            for function in [need_book] + ONE_BOOK:
                if fault is not None:
                    keeps(self, InvalidBook, fault, function, value)
                check_ways(self, function, (value,))
            for function in (lower_book, deed_rank, told_word):
                if fault is not None:
                    keeps(self, InvalidBook, fault, function, value, None)
            self.assertEqual(is_mark(value), plain_mark(value))
            check_ways(self, is_mark, (value,))
        for value in [((0, value),) for value in odd_values()] + [(value, 0) for value in odd_values()]:
            self.assertTrue(same(is_mark(value), plain_mark(value)))
        keeps(self, InvalidBook, -1, book_vector, in_lists(BOOK))


class StandingTest(unittest.TestCase):
    def test_examples(self):
        self.assertEqual(standing_marks(BOOK), ((0, 0),))
        self.assertEqual(compact_book(BOOK), ((2, 1), (((0, 0), (0, 0), ("put", ("ann",))),)))
        for function in [need_book] + ONE_BOOK:
            check_ways(self, function, (BOOK,))

    def test_vectors_and_faults(self):
        choice = chance(55)
        open_ones = 0
        for _ in range(120):
            book, vectors = some_world(choice, choice.randint(1, 4), choice.randint(0, 14))
            cut = tuple(row[:choice.randint(0, len(row))] for row in book)
            vector = tuple(map(len, cut))
            self.assertEqual(book_vector(cut), vector)
            faults = [(house, number) for house, row in enumerate(cut) for number, (seen, _) in enumerate(row)
                      if any(mine > theirs for mine, theirs in zip(seen, vector))]
            self.assertEqual(closed_fault(cut), faults[0] if faults else None)
            open_ones += len(faults) > 0
            if faults:
                keeps(self, Refused, -1, lower_book, book, vector)
                keeps(self, Refused, -1, compact_book, cut)
            else:
                self.assertEqual(lower_book(book, vector), cut)
            for vector in vectors:
                self.assertEqual(book_vector(lower_book(book, vector)), vector)
        self.assertGreater(open_ones, 20)

    def test_wrong_vectors(self):
        check_ways(self, lower_book, (BOOK, (1, 0)))
        for vector in [(3, 0), (0, 2), (0,), (0, 0, 0), (True, 0), (-1, 0), [1, 0], None, 1, (0, None), ((0,), 0)]:
            keeps(self, InvalidVector, -1, lower_book, BOOK, vector)
        keeps(self, Refused, -1, lower_book, BOOK, (0, 1))
        keeps(self, Refused, -1, lower_book, BOOK, (2, 0))
        for value in odd_values():
            check_ways(self, lower_book, (BOOK, value))

    def test_ranks(self):
        choice = chance(551)
        for _ in range(60):
            book, _ = some_world(choice, choice.randint(1, 4), choice.randint(1, 14))
            ranks = {}
            for house, row in enumerate(book):
                for number, (seen, _) in enumerate(row):
                    ranks[(house, number)] = deed_rank(book, (house, number))
                    self.assertEqual(ranks[(house, number)], (sum(seen), house))
            self.assertEqual(len(set(ranks.values())), len(ranks))
            for house, number in ranks:
                for other, many in enumerate(book[house][number][0]):
                    for seen in range(many):
                        self.assertLess(ranks[(other, seen)], ranks[(house, number)])
        for mark in [(0, 2), (2, 0), (1, 1), [0, 0], (0, True), (0,), None, (0, -1), "00", (False, 0)]:
            keeps(self, InvalidIndex, -1, deed_rank, BOOK, mark)
        for value in odd_values():
            check_ways(self, deed_rank, (BOOK, value))

    def test_standing_and_told_words(self):
        choice = chance(552)
        told = 0
        for _ in range(150):
            book, _ = some_world(choice, choice.randint(1, 4), choice.randint(0, 14))
            words = [((house, number), deed[1]) for house, row in enumerate(book) for number, deed in enumerate(row)]
            backs = [word[1] for _, word in words if word[0] == "back"]
            stand = [(mark, word) for mark, word in words if word[0] != "back" and mark not in backs]
            self.assertEqual(standing_words(book), tuple(stand))
            self.assertEqual(standing_marks(book), tuple(mark for mark, _ in stand))
            for subject in [mark for mark, _ in words] + ["rule", "day", (9, 9)]:
                marks = [mark for mark, word in stand if word[0] == subject]
                if subject in [mark for mark, word in stand if word[0] == "put"]:
                    marks = [subject] + [mark for mark, word in stand if word[:2] == ("change", subject)]
                marks.sort(key=lambda mark: (sum(book[mark[0]][mark[1]][0]), mark[0]))
                told += len(marks) > 1
                expected = (marks[-1], tuple(marks[:-1])) if marks else (None, ())
                self.assertTrue(same(told_word(book, subject), expected))
        self.assertGreater(told, 50)

    def test_told_word_errors(self):
        for subject in ["put", "back", "", [0, 0], (0,), (0, -1), (True, 0), None, 0, ("rule",), Likes(1, (), ())]:
            keeps(self, InvalidIndex, -1, told_word, BOOK, subject)
        for value in odd_values() + ["rule"]:
            check_ways(self, told_word, (BOOK, value))


def plain_state(book):
    words = [((house, number), (sum(deed[0]), house), deed[1]) for house, row in enumerate(book)
             for number, deed in enumerate(row)]
    backs = [word[1] for _, _, word in words if word[0] == "back"]
    return (tuple(map(len, book)), tuple(row for row in words if row[2][0] != "back" and row[0] not in backs))


class CompactTest(unittest.TestCase):
    def test_it_holds_joined_short_forms_are_those_of_both_together(self):
        choice = chance(56)
        for _ in range(150):
            book, vectors = some_world(choice, choice.randint(1, 4), choice.randint(0, 17))
            one, other = (lower_book(book, choice.choice(vectors)) for _ in range(2))
            self.assertTrue(same(compact_book(one), plain_state(one)))
            both = joined(one, other)
            self.assertEqual(join_compact(compact_book(one), compact_book(other)), compact_book(both))
            self.assertEqual(join_compact(compact_book(one), compact_book(one)), compact_book(one))

    def test_do_is_the_short_form_behind_the_deed(self):
        choice = chance(561)
        for _ in range(200):
            book, vectors = some_world(choice, choice.randint(1, 4), choice.randint(0, 12))
            house = choice.randrange(len(book))
            lower = lower_book(book, choice.choice(vectors))
            vector = book_vector(lower)
            word = some_word(choice, lower, vector)
            longer = lower[:house] + (lower[house] + ((vector, word),),) + lower[house + 1:]
            told = compact_do(compact_book(lower), house, word)
            self.assertTrue(same(told, (compact_book(longer), (house, vector[house]))))

    def test_a_mark_between_other_marks(self):
        row = ((0, 0), (0, 0), ("put", ()))
        state = ((1, 1), (row, ((1, 0), (1, 1), ("rule", ()))))
        told = compact_do(state, 0, ("put", ("a",)))
        self.assertEqual(told, (((2, 1), (row, ((0, 1), (2, 0), ("put", ("a",))), state[1][1])), (0, 1)))
        self.assertEqual(compact_do(state, 1, ("back", (0, 0))), (((1, 2), state[1][1:]), (1, 1)))
        # A mark that no longer stands may be named: it is not looked at further.
        self.assertEqual(compact_do(((2, 0), ()), 1, ("back", (0, 1)))[0], ((2, 1), ()))

    def test_wrong_states(self):
        row = ((0, 0), (5, 0), ("put", ()))
        wrong = [((), ()), ((0,) * 9, ()), ((1, True), ()), ((-1,), ()), ([1], ()), ((1,), []), ((1,),), ((1,), (), ()), 3,
                 None, ((1,), (row, row)), ((0,), (row,)), ((1,), (row[:2],)), ((1,), (list(row),)), ((1,), (row + (0,),)),
                 ((1,), (((0, 0), (0, 1), ("put", ())),)), ((1,), (((0, 0), (0,), ("put", ())),)),
                 ((1,), (((0, 0), (-1, 0), ("put", ())),)), ((1,), (((0, 0), (True, 0), ("put", ())),)),
                 ((1,), (((0, 0), [0, 0], ("put", ())),)), ((1,), (((0, 0), (0, 0), ("back", (0, 0))),)),
                 ((1,), (([0, 0], (0, 0), ("put", ())),)), ((1,), (((1, 0), (0, 1), ("put", ())),)),
                 ((2,), (((0, 1), (0, 0), ("put", ())), row)), ((1,), (None,)), "ab", (1, ())]
        right = ((1,), (row,))
        for state in wrong:
            keeps(self, InvalidState, 0, join_compact, state, state)
            keeps(self, InvalidState, 1, join_compact, right, state)
            keeps(self, InvalidState, -1, compact_do, state, 9, None)
        keeps(self, Refused, -1, join_compact, right, ((1, 0), (row,)))
        wide = ((0, 1) * 4, (((7, 0), (0, 7), ("rule", ())),))
        self.assertEqual(join_compact(wide, wide), wide)
        # No more is looked at: neither whether ranks are unlike nor what words name.
        loose = ((2, 1), (row, ((0, 1), (5, 0), ("change", (7, 7), ())), ((1, 0), (5, 1), ("same", (0, 0), (1, 0)))))
        self.assertEqual(join_compact(loose, loose), loose)

    def test_rows_in_both(self):
        row = ((0, 0), (5, 0), ("put", (1,)))
        one = ((1, 0), (row,))
        self.assertEqual(join_compact(one, ((1, 3), ())), ((1, 3), ()))
        self.assertEqual(join_compact(one, ((0, 3), ())), ((1, 3), (row,)))
        other = ((1, 3), (((0, 0), (5, 0), ("put", (True,))),))
        self.assertEqual(join_compact(one, other), ((1, 3), ()))
        self.assertEqual(join_compact(one, ((1, 3), (row,))), ((1, 3), (row,)))
        for fields in ((), (2,), (1, 1), ((1,),), ("1",), (None,), ((),)):
            self.assertEqual(join_compact(one, ((1, 3), (row[:2] + (("put", fields),),))), ((1, 3), ()))
        nested = ((0, 0), (5, 0), ("put", ((1, ("a", None)), Likes(1, (), ()))))
        again = ((0, 0), (5, 0), ("put", ((1, ("a", None)), Likes(1, (), ()))))
        self.assertEqual(join_compact(((1,), (nested,)), ((1,), (again,))), ((1,), (nested,)))
        again = ((0, 0), (5, 0), ("put", ((True, ("a", None)), Likes(1, (), ()))))
        self.assertEqual(join_compact(((1,), (nested,)), ((1,), (again,))), ((1,), ()))

    def test_wrong_deeds(self):
        state = ((1, 2), (((0, 0), (0, 0), ("put", ())), ((1, 1), (1, 1), ("day", ()))))
        for house in (2, -1, True, None, "0", (0,), [0]):
            keeps(self, NoHouse, house, compact_do, state, house, None)
        for word in [None, (), ("put",), ("put", []), ["put", ()], ("back", (1, 1)), ("back", (0, 1)), ("back", (2, 0)),
                     ("change", (1, 2), ()), ("same", (0, 0), (0, 1)), ("unlike", (1, 0), (0, 0)), ("back", [0, 0]),
                     ("day", ([],)), ("back", (0, False)), "put"]:
            keeps(self, InvalidDeed, -1, compact_do, state, 0, word)
        for word in [("back", (1, 0)), ("change", (1, 1), ()), ("same", (0, 0), (1, 1)), ("rule", ()), ("day", ())]:
            compact_do(state, 1, word)
        for value in odd_values():
            check_ways(self, compact_do, (state, value, ("put", ())))
            check_ways(self, compact_do, (state, 0, value))
            check_ways(self, compact_do, (value, 0, ("put", ())))
            check_ways(self, join_compact, (value, state))
            check_ways(self, join_compact, (state, value))
        check_ways(self, compact_do, (state, 0, ("put", ())))

    def test_gap_books(self):
        one, other, mark = gap_books()
        self.assertTrue(same(gap_books(), gap_books()))
        self.assertIs(need_book(one), one)
        self.assertIs(need_book(other), other)
        self.assertTrue(closed_fault(one) is not None or closed_fault(other) is not None)
        rows = join_compact(plain_state(one), plain_state(other))[1]
        self.assertIn(mark, [row[0] for row in rows])
        both = joined(one, other)
        self.assertIs(need_book(both), both)
        self.assertIn(("back", mark), [deed[1] for row in both for deed in row])
        self.assertNotIn(mark, standing_marks(both))


if __name__ == "__main__":
    unittest.main()
