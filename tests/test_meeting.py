"""[57], [58]: books joined, deeds taken in, letters, what is surely known."""

import itertools
import unittest

from helpers import chance, changed_values, check_ways, has_list, in_lists, keeps, odd_values, same
from test_books import plain_fault, plain_mark, plain_word
from worlds import joined, some_world
from whoiswho.best import Likes
from whoiswho.books import book_vector, closed_fault, compact_book, deed_rank, lower_book, standing_marks
from whoiswho.errors import InvalidBook, InvalidDeed, InvalidIndex, InvalidLetter, InvalidSize, InvalidVector, NoHouse, Refused
from whoiswho.meeting import fewest_letters, join_books, lacking_deeds, letters_fault, surely_knows, taken_in

BOOK = ((((0, 0), ("put", ("ann",))), ((1, 1), ("back", (1, 0)))), (((1, 0), ("change", (0, 0), ("anna",))),))


def deeds_of(book):
    return [((house, number), deed) for house, row in enumerate(book) for number, deed in enumerate(row)]


def plain_marked(value, houses):
    if type(value) is not tuple or len(value) != 2 or not plain_mark(value[0]) or value[0][0] >= houses:
        return False
    mark, deed = value
    return type(deed) is tuple and len(deed) == 2 and type(deed[0]) is tuple and len(deed[0]) == houses \
        and all(type(many) is int and many >= 0 for many in deed[0]) and deed[0][mark[0]] == mark[1] and plain_word(deed[1])


def plain_taken(book, handed):
    """The book behind all that can come, and what waits, by trying again and again."""
    rows = [list(row) for row in book]
    first = {}
    for mark, deed in handed:
        if mark[1] >= len(book[mark[0]]) and mark not in first:
            first[mark] = deed
    again = True
    while again:
        again = False
        for mark in sorted(first):
            seen = first[mark][0]
            if mark[1] == len(rows[mark[0]]) and all(many <= len(row) for many, row in zip(seen, rows)):
                rows[mark[0]].append(first.pop(mark))
                again = True
                break
    return tuple(map(tuple, rows)), tuple(sorted(first.items()))


class JoinTest(unittest.TestCase):
    def test_example(self):
        self.assertEqual(standing_marks(BOOK), ((0, 0),))
        self.assertEqual(compact_book(BOOK), ((2, 1), (((0, 0), (0, 0), ("put", ("ann",))),)))
        self.assertEqual((surely_knows(BOOK, 1, (0, 0)), surely_knows(BOOK, 1, (0, 1))), (True, False))

    def test_parts_of_worlds(self):
        choice = chance(57)
        for _ in range(60):
            book, vectors = some_world(choice, choice.randint(1, 4), choice.randint(0, 17))
            one, other = (lower_book(book, choice.choice(vectors)) for _ in range(2))
            both = join_books(one, other)
            self.assertTrue(same(both, joined(one, other)))
            self.assertIsNone(closed_fault(both))
            self.assertEqual(book_vector(both), tuple(map(max, zip(book_vector(one), book_vector(other)))))
            cut = tuple(row[:choice.randint(0, len(row))] for row in book)
            self.assertTrue(same(join_books(cut, one), joined(cut, one)))

    def test_errors(self):
        put, other = ((0, 0), ("put", ("a",))), ((0, 0), ("put", ("b",)))
        for value in (None, (), 3, [()], ((),) * 9):
            keeps(self, InvalidBook, -1, join_books, value, value)
            keeps(self, InvalidBook, -1, join_books, ((),), value)
        keeps(self, InvalidBook, 1, join_books, ((), (3,)), None)
        keeps(self, InvalidBook, 0, join_books, ((),), ((3,), ()))
        keeps(self, Refused, -1, join_books, ((),), ((), ()))
        keeps(self, Refused, 0, join_books, ((put,), ()), ((other,), ()))
        keeps(self, Refused, 1, join_books, ((), (put,)), ((), (other,)))
        longer = (((0, 0), ("put", ())), ((1, 0), ("put", ())))
        unlike = (((0, 0), ("put", ())), ((1, 3), ("put", ())))
        keeps(self, Refused, 0, join_books, (longer, (put,)), (unlike, (other,)))
        # A truth is no integer, also deep within a deed; a longer row hides nothing.
        keeps(self, Refused, 0, join_books, ((((0,), ("put", ((1, (1,)),))),),), ((((0,), ("put", ((1, (True,)),))),),))
        keeps(self, Refused, 0, join_books, (longer, ()), ((((0, 0), ("day", ())),), ()))
        nested = (((0,), ("put", (Likes(1, (), ()), "a"))),)
        self.assertEqual(join_books((nested,), ((((0,), ("put", (Likes(1, (), ()), "a"))),),)), (nested,))
        book, _ = some_world(chance(5), 3, 12)
        check_ways(self, join_books, (book, book))


class LackingTest(unittest.TestCase):
    def test_lacking(self):
        choice = chance(571)
        for _ in range(80):
            book, vectors = some_world(choice, choice.randint(1, 4), choice.randint(0, 17))
            for vector in [choice.choice(vectors), tuple(choice.randint(0, 9) for _ in book), (0,) * len(book)]:
                rows = [row for row in deeds_of(book) if row[0][1] >= vector[row[0][0]]]
                rows.sort(key=lambda row: deed_rank(book, row[0]))
                self.assertTrue(same(lacking_deeds(book, vector), tuple(rows)))
        self.assertEqual(lacking_deeds(BOOK, (10 ** 20, 0)), (((1, 0), BOOK[1][0]),))
        self.assertEqual(lacking_deeds(((),), (0,)), ())

    def test_errors(self):
        for vector in [(0,), (0, 0, 0), [0, 0], (0, -1), (True, 0), (0, None), None, 3, "00"]:
            keeps(self, InvalidVector, -1, lacking_deeds, BOOK, vector)
        keeps(self, InvalidBook, 0, lacking_deeds, (3,), None)
        for value in odd_values():
            check_ways(self, lacking_deeds, (BOOK, value))
            check_ways(self, lacking_deeds, (value, (0, 0)))


class TakenTest(unittest.TestCase):
    def test_deeds_of_one_world(self):
        choice = chance(572)
        waited = 0
        for _ in range(100):
            book, vectors = some_world(choice, choice.randint(1, 4), choice.randint(0, 17))
            start = lower_book(book, choice.choice(vectors))
            deeds = deeds_of(book)
            came = [choice.choice(deeds) for _ in range(choice.randint(0, 20))] if deeds else []
            told, wait = taken_in(start, came[:4], came[4:])
            self.assertTrue(same((told, wait), plain_taken(start, came)))
            self.assertIsNone(closed_fault(told))
            waited += len(wait)
            # In any parts and any order it comes to the same.
            again = came + came[:3]
            choice.shuffle(again)
            here, left = start, ()
            while again:
                here, left = taken_in(here, left, again[:2])
                again = again[2:]
            self.assertTrue(same((here, left), (told, wait)))
        self.assertGreater(waited, 50)

    def test_the_greatest_closed_book(self):
        choice = chance(573)
        for _ in range(40):
            book, vectors = some_world(choice, choice.randint(1, 3), choice.randint(1, 8))
            start = lower_book(book, choice.choice(vectors))
            deeds = deeds_of(book)
            came = choice.sample(deeds, choice.randint(0, len(deeds)))
            told, _ = taken_in(start, (), came)
            had = set(came) | set(deeds_of(start))
            closed = []
            for vector in itertools.product(*[range(len(row) + 1) for row in book]):
                lower = tuple(row[:many] for row, many in zip(book, vector))
                if set(deeds_of(lower)) <= had and closed_fault(lower) is None:
                    closed.append(lower)
            self.assertIn(told, closed)
            self.assertTrue(all(joined(told, other) == told for other in closed))

    def test_what_is_lacking_never_waits(self):
        choice = chance(574)
        for _ in range(60):
            book, vectors = some_world(choice, choice.randint(1, 4), choice.randint(0, 14))
            one, other = choice.choice(vectors), choice.choice(vectors)
            here = lower_book(book, one)
            for row in lacking_deeds(lower_book(book, other), one):
                here, wait = taken_in(here, (), (row,))
                self.assertEqual(wait, ())
            self.assertEqual(here, join_books(lower_book(book, one), lower_book(book, other)))

    def test_by_hand(self):
        a, b, c = deeds_of(BOOK)
        self.assertEqual(taken_in(((), ()), [], [b, c, a]), (BOOK, ()))
        self.assertTrue(same(taken_in(((), ()), [c], [b, c, b]), (((), ()), (b, c))))
        self.assertEqual(taken_in(((), ()), (), ()), (((), ()), ()))
        # Of unlike deeds of one mark the first one handed in alone is looked at, be it in the book.
        other = ((0, 0), ((0, 0), ("put", ("other",))))
        late = ((0, 0), ((0, 5), ("put", ("late",))))
        self.assertEqual(taken_in(((), ()), [a], [other])[0], ((a[1],), ()))
        self.assertEqual(taken_in(((), ()), [other], [a])[0], ((other[1],), ()))
        self.assertEqual(taken_in(((), ()), [], [late, a]), (((), ()), (late,)))
        self.assertEqual(taken_in(((), ()), [late], [a, b]), (((), ()), (late, b)))
        self.assertEqual(taken_in(((a[1],), ()), [late], [other]), (((a[1],), ()), ()))

    def test_errors(self):
        a, b, c = deeds_of(BOOK)
        put = ("put", ())
        wrong = [None, 3, (a[0],), list(a), ([0, 0], a[1]), ((0, 0), list(a[1])), ((2, 0), ((0, 0), put)), ((0, 1), a[1]),
                 ((0, True), b[1]), ((0, 0), ((0, 0, 0), put)), ((0, 0), ((0,), put)), ((0, 0), ((0, -1), put)),
                 ((0, 0), ((0, 0), ("puts", ()))), ((0, 0), ((0, 0), ("put", [1]))), ((1, 0), ((1, 0), ("back", 3))),
                 ((0, 0), ((False, 0), put)), (a[0], a[1], 0), ((0, 0), ([0, 0], put))]
        for value in wrong:
            keeps(self, InvalidDeed, 1, taken_in, ((), ()), [a, value, None], None)
            keeps(self, InvalidDeed, 2, taken_in, ((), ()), [a], [a, b, value, None])
        for value in (None, 3, "ab", True, Likes(1, (), ())):
            keeps(self, InvalidDeed, -1, taken_in, ((), ()), value, None)
            keeps(self, InvalidDeed, -1, taken_in, ((), ()), (), value)
        keeps(self, InvalidBook, -1, taken_in, (), None, None)
        keeps(self, InvalidBook, 0, taken_in, (3, ()), None, None)
        # What would come is no book: it names what isn't there, or has not seen what it should.
        keeps(self, InvalidBook, 1, taken_in, ((), ()), (), [((1, 0), ((0, 0), ("back", (0, 0))))])
        keeps(self, InvalidBook, 0, taken_in, ((a[1],), ()), (), [((0, 1), ((1, 0), ("same", (0, 0), (1, 0)))), c])
        keeps(self, InvalidBook, 0, taken_in, ((), ()), [((0, 1), ((1, 0), ("change", (0, 0), ())))],
              [((0, 0), ((0, 0), ("day", ())))])
        late = ((2, 0), ((0, 1, 0), ("put", ())))
        keeps(self, InvalidBook, 2, taken_in, ((), (), ()), [((0, 0), ((0, 0, 0), put))], [((1, 0), ((1, 0, 0), put)), late])
        # What waits is not looked at so.
        wait = ((1, 1), ((0, 1), ("back", (0, 0))))
        self.assertEqual(taken_in(((), ()), [], [wait]), (((), ()), (wait,)))

    def test_changed_deeds(self):
        choice = chance(575)
        found = {}
        for _ in range(500):
            book, _ = some_world(choice, choice.randint(1, 3), choice.randint(3, 9))
            start = ((),) * len(book)
            for value in changed_values(tuple(deeds_of(book)), choice, 4):
                wrong = None
                if not isinstance(value, (list, tuple)):
                    wrong = (InvalidDeed, -1)
                else:
                    places = [at for at, row in enumerate(value) if not plain_marked(row, len(book))]
                    if places:
                        wrong = (InvalidDeed, places[0])
                    elif plain_fault(plain_taken(start, value)[0]) is not None:
                        wrong = (InvalidBook, plain_fault(plain_taken(start, value)[0]))
                found[wrong and wrong[0]] = found.get(wrong and wrong[0], 0) + 1
                if wrong:
                    keeps(self, wrong[0], wrong[1], taken_in, start, (), value)
                else:
                    self.assertTrue(same(taken_in(start, (), value), plain_taken(start, value)))
        self.assertGreater(min(found[None], found[InvalidDeed], found[InvalidBook]), 0)

    def test_ways(self):
        a, b, c = deeds_of(BOOK)
        outcome = check_ways(self, taken_in, (((), ()), (c,), (b, a)))
        self.assertEqual(outcome[0], "returns")
        self.assertTrue(same(taken_in(((), ()), [c], [b, a]), taken_in(deeds=(b, a), waiting=(c,), book=((), ()))))
        self.assertFalse(has_list(taken_in(((), ()), [c], [b])))
        for value in odd_values():
            check_ways(self, taken_in, (value, (), ()))
            check_ways(self, taken_in, (((),), value, ()))
            check_ways(self, taken_in, (((),), (), value))


class KnowsTest(unittest.TestCase):
    def test_surely_knows(self):
        choice = chance(58)
        for _ in range(40):
            book, _ = some_world(choice, choice.randint(1, 4), choice.randint(1, 12))
            for mark, _ in deeds_of(book):
                for house, row in enumerate(book):
                    knows = mark[0] == house or any(deed[0][mark[0]] > mark[1] for deed in row)
                    self.assertIs(surely_knows(book, house, mark), knows)

    def test_in_all_runs(self):
        # Any run with these deeds: each house reads what it likes between its deeds, as long as each deed has seen
        # just what its house has. At the end it has at least what its last deed saw, and it need have no more.
        choice = chance(581)
        for _ in range(60):
            book, _ = some_world(choice, choice.randint(1, 4), choice.randint(1, 10))
            for house, row in enumerate(book):
                has = [0] * len(book)
                for at, deed in enumerate(row):
                    has = [max(pair) for pair in zip(has, deed[0])]
                    has[house] = at + 1
                for mark, _ in deeds_of(book):
                    self.assertIs(surely_knows(book, house, mark), mark[1] < has[mark[0]])

    def test_errors(self):
        for house in (-1, 2, True, None, "0", (0,), [0]):
            keeps(self, NoHouse, house, surely_knows, BOOK, house, None)
        for mark in [(0, 2), (2, 0), (1, 1), None, [0, 0], (0, False), (0,), "00", (0, -1)]:
            keeps(self, InvalidIndex, -1, surely_knows, BOOK, 1, mark)
        keeps(self, InvalidBook, -1, surely_knows, 3, None, None)
        for value in odd_values():
            check_ways(self, surely_knows, (BOOK, value, (0, 0)))
            check_ways(self, surely_knows, (BOOK, 0, value))
            check_ways(self, surely_knows, (value, 0, (0, 0)))


class LettersTest(unittest.TestCase):
    def plain_fault(self, houses, letters):
        has = [{house} for house in range(houses)]
        for writer, reader in letters:
            has[reader] |= has[writer]
        lacks = [(one, other) for one in range(houses) for other in range(houses) if one not in has[other]]
        return lacks[0] if lacks else None

    def test_faults(self):
        choice = chance(582)
        for _ in range(300):
            houses = choice.randint(1, 6)
            pairs = list(itertools.permutations(range(houses), 2))
            letters = [choice.choice(pairs) for _ in range(choice.randint(0, 14))] if pairs else []
            self.assertTrue(same(letters_fault(houses, letters), self.plain_fault(houses, letters)))
        self.assertIsNone(letters_fault(1, ()))
        self.assertEqual(letters_fault(2, ()), (0, 1))
        self.assertEqual(letters_fault(2, [(0, 1)]), (1, 0))
        self.assertEqual(letters_fault(3, [(0, 1), (1, 2), (2, 1)]), (1, 0))

    def test_fewest(self):
        for houses in range(1, 31):
            letters = fewest_letters(houses)
            self.assertEqual(len(letters), 2 * houses - 2)
            self.assertIsNone(letters_fault(houses, letters))
            self.assertFalse(has_list(letters))
        # No fewer letters do.
        for houses in (2, 3):
            pairs = list(itertools.permutations(range(houses), 2))
            for many in range(2 * houses - 2):
                for letters in itertools.product(pairs, repeat=many):
                    self.assertIsNotNone(letters_fault(houses, letters))

    def test_errors(self):
        for houses in (0, 31, -1, True, None, "2", (2,), 10 ** 9):
            keeps(self, InvalidSize, "houses", letters_fault, houses, None)
            keeps(self, InvalidSize, "houses", fewest_letters, houses)
        for letter in [(0, 0), (0, 2), (-1, 0), (0,), (0, 1, 1), None, 3, "01", (True, 0), (0, True), (0, None), [0, 1]]:
            keeps(self, InvalidLetter, 1, letters_fault, 2, [(0, 1), letter, None])
        for value in (None, 3, "ab", True, Likes(1, (), ())):
            keeps(self, InvalidLetter, -1, letters_fault, 2, value)
        for value in odd_values():
            check_ways(self, letters_fault, (value, ()))
            check_ways(self, letters_fault, (3, value))
            check_ways(self, fewest_letters, (value,))
        self.assertEqual(letters_fault(2, [(0, 1), (1, 0)]), letters_fault(letters=((0, 1), (1, 0)), houses=2))
        self.assertEqual(in_lists(fewest_letters(2)), [[1, 0], [0, 1]])


if __name__ == "__main__":
    unittest.main()
