"""[61]: houses that keep their deeds in signs, and may fall at any sign."""

import unittest

from helpers import chance, check_ways, deep_value, has_list, keeps, odd_values, same
from test_books import plain_fault
from test_meeting import deeds_of, plain_marked, plain_taken
from worlds import some_word, some_world
from whoiswho.best import Likes
from whoiswho.books import book_vector, closed_fault, deed_rank, lower_book
from whoiswho.entries import read_entry, write_entry
from whoiswho.errors import InvalidBook, InvalidDeed, InvalidEntry, InvalidSize, InvalidValue, NoHouse
from whoiswho.falls import do_steps, early_run, hear_steps, read_house
from whoiswho.meeting import taken_in

PUT = ("put", ("a",))


def log_of(book):
    """The signs of all deeds of a closed book, each behind what it has seen."""
    rows = sorted(deeds_of(book), key=lambda row: deed_rank(book, row[0]))
    return sum((write_entry(row) for row in rows), ())


def plain_read(log, houses):
    """The book of the entries that can come next, by trying all ends of each entry."""
    book, here = ((),) * houses, 0
    while True:
        for end in range(here + 1, len(log) + 1):
            try:
                value = read_entry(log[here:end])
                break
            except InvalidEntry:
                continue
        else:
            return book, here
        if not plain_marked(value, houses) or len(book[value[0][0]]) != value[0][1]:
            return book, here
        behind, wait = plain_taken(book, [value])
        if wait or plain_fault(behind) is not None:
            return book, here
        book, here = behind, end


class ReadTest(unittest.TestCase):
    def test_example(self):
        mark, rows = do_steps((), 1, 0, ("put", ("a",)))
        self.assertEqual(mark, (0, 0))
        self.assertEqual([read_house(row, 1)[0] for row in (rows[0], rows[-2], rows[-1])],
                         [((),), ((),), ((((0,), ("put", ("a",))),),)])

    def test_whole_logs(self):
        choice = chance(61)
        for _ in range(40):
            book, vectors = some_world(choice, choice.randint(1, 4), choice.randint(0, 13))
            book = lower_book(book, choice.choice(vectors))
            log = log_of(book)
            self.assertTrue(same(read_house(log, len(book)), (book, len(log))))
            self.assertTrue(same(read_house(list(log) + [87, 72], len(book)), (book, len(log))))

    def test_cut_and_spoilt_logs(self):
        choice = chance(611)
        whole = 0
        for _ in range(40):
            book, _ = some_world(choice, choice.randint(1, 3), choice.randint(1, 6))
            log = log_of(book)
            for _ in range(6):
                cut = log[:choice.randint(0, len(log))]
                told = read_house(cut, len(book))
                self.assertTrue(same(told, plain_read(cut, len(book))))
                self.assertIsNone(closed_fault(told[0]))
                whole += told[1] == len(cut)
                if log:
                    at = choice.randrange(len(log))
                    spoilt = log[:at] + ((log[at] + choice.randint(1, 255)) & 255,) + log[at + 1:]
                    told = read_house(spoilt, len(book))
                    self.assertLessEqual(told[1], at)
                    self.assertTrue(same(told, plain_read(spoilt, len(book))))
        self.assertGreater(whole, 5)

    def test_what_cannot_come_next(self):
        first = ((0, 0), ((0, 0), PUT))
        second = ((1, 0), ((1, 0), ("change", (0, 0), ("b",))))
        good = write_entry(first)
        self.assertEqual(read_house(good + write_entry(second), 2)[1], len(good + write_entry(second)))
        for value in [second[::-1], ((1, 0), ((2, 0), PUT)), first, ((0, 0), ((0, 0), ("put", ("other",)))), ((0, 2), ((2, 0), PUT)),
                      ((0, 1), ((1,), PUT)), ((2, 0), ((0, 0), PUT)), ((1, 0), ((0, 0), ("back", (0, 0)))), None, 3, ((0, 1), ((1, 0), ())),
                      ((1, 0), ((1, 0), ("change", (1, 0), ()))), ((1, 0), ((1, 0), ("puts", ()))), ((0, 1), ((True, 0), PUT)), (),
                      ((0, True), ((1, 0), PUT)), ((1, 0), ((1, 0), PUT), 0)]:
            log = good + write_entry(value)
            self.assertTrue(same(read_house(log + write_entry(second), 2), (((first[1],), ()), len(good))), value)
            self.assertTrue(same(read_house(log, 2), plain_read(log, 2)))
        # A back of a back, and one that hasn't seen what it should.
        back = write_entry(((0, 1), ((1, 0), ("back", (0, 0)))))
        more = write_entry(((0, 2), ((2, 0), ("back", (0, 1)))))
        self.assertEqual(read_house(good + back + more, 2)[1], len(good + back))
        late = write_entry(((2, 0), ((0, 1, 0), PUT)))
        rows = write_entry(((0, 0), ((0, 0, 0), PUT))) + write_entry(((1, 0), ((1, 0, 0), PUT)))
        self.assertEqual(read_house(rows + late, 3)[1], len(rows))

    def test_errors(self):
        for log in (None, 3, "ab", (256,), (0, -1), (True,), [None], ((),), Likes(1, (), ())):
            keeps(self, InvalidEntry, "signs", read_house, log, None)
            keeps(self, InvalidEntry, "signs", do_steps, log, None, None, None)
            keeps(self, InvalidEntry, "signs", hear_steps, log, None, None)
        for houses in (0, 9, -1, True, None, "1", (1,)):
            keeps(self, InvalidSize, "houses", read_house, (), houses)
            keeps(self, InvalidSize, "houses", do_steps, (), houses, None, None)
            keeps(self, InvalidSize, "houses", hear_steps, (), houses, None)
        self.assertEqual(read_house((), 8), (((),) * 8, 0))
        for value in odd_values():
            check_ways(self, read_house, (value, 1), lists=(0,))
            check_ways(self, read_house, ((), value), lists=(0,))
            check_ways(self, do_steps, ((), 1, value, PUT), lists=(0,))
            check_ways(self, do_steps, ((), 1, 0, value))
            check_ways(self, hear_steps, ((), 1, value))
        check_ways(self, do_steps, ((87,), 2, 1, PUT), lists=(0,))


class StepsTest(unittest.TestCase):
    def check_rows(self, rows, log, signs, coming):
        """The log, it without its end, then one sign more each, up to all entries of what comes."""
        plain = [tuple(log), tuple(log[:signs])]
        for value in coming:
            for sign in write_entry(value):
                plain.append(plain[-1] + (sign,))
        self.assertTrue(same(rows, tuple(plain)))

    def test_do(self):
        choice = chance(612)
        for _ in range(40):
            book, vectors = some_world(choice, choice.randint(1, 3), choice.randint(0, 8))
            book = lower_book(book, choice.choice(vectors))
            log = log_of(book)
            signs = len(log)
            log += choice.choice([(), (87,), (87, 72, 5, 0), write_entry(None), write_entry(((0, 0), 3))[:-2]])
            house = choice.randrange(len(book))
            seen = book_vector(book)
            word = some_word(choice, book, seen)
            mark, rows = do_steps(log, len(book), house, word)
            self.assertFalse(has_list(rows))
            self.assertEqual(mark, (house, len(book[house])))
            self.check_rows(rows, log, signs, [(mark, (seen, word))])
            for row in rows[:-1]:
                self.assertTrue(same(read_house(row, len(book))[0], book))
            behind = tuple(row + ((seen, word),) if at == house else row for at, row in enumerate(book))
            self.assertTrue(same(read_house(rows[-1], len(book)), (behind, len(rows[-1]))))
            # Going on from any row is as from its book.
            for row in choice.sample(rows[:-1], 5):
                self.assertEqual(do_steps(row, len(book), house, word)[1][1:], rows[1:])

    def test_wrong_words(self):
        first = ((0, 0), ((0, 0), PUT))
        log = write_entry(first) + write_entry(((1, 0), ((1, 0), ("day", ())))) + write_entry(((0, 1), ((1, 1), ("back", (0, 0)))))
        for word in [None, 3, (), "put", ("put",), ["put", ()], ("put", []), ("put", ([],)), ("puts", ()), ("change", (1, 0), ()),
                     ("change", (0, 2), ()), ("same", (0, 0), (1, 0)), ("unlike", (0, 0), (0, 0)), ("back", (1, 0)), ("back", (0, 1)),
                     ("back", (1, 1)), ("back", (2, 0)), ("back", [0, 0]), ("change", (0, True), ())]:
            for house in (0, 1):
                keeps(self, InvalidDeed, -1, do_steps, log, 2, house, word)
        for house in (-1, 2, True, None, "0", (0,)):
            keeps(self, NoHouse, house, do_steps, log, 2, house, None)
        self.assertEqual(do_steps(log, 2, 1, ("back", (0, 0)))[0], (1, 1))
        for thing in [Likes(1, (), ()), "\n", "50%", deep_value(9)]:
            keeps(self, InvalidValue, -1, do_steps, log, 2, 1, ("put", (thing,)))
        keeps(self, InvalidSize, "entry", do_steps, log, 2, 1, ("put", ("a" * 4086,)))
        keeps(self, InvalidDeed, -1, do_steps, log, 2, 1, ("put", (Likes(1, (), ()), [])))

    def test_hear(self):
        choice = chance(613)
        came = 0
        for _ in range(60):
            book, vectors = some_world(choice, choice.randint(1, 4), choice.randint(0, 10))
            start = lower_book(book, choice.choice(vectors))
            deeds = deeds_of(book)
            heard = [choice.choice(deeds) for _ in range(choice.randint(0, 9))] if deeds else []
            log = log_of(start) + choice.choice([(), (87, 72), write_entry(3)])
            rows = hear_steps(log, len(book), heard)
            self.assertFalse(has_list(rows))
            here, coming = start, []
            while True:
                known = [row for row in dict(heard[::-1]).items()]
                ready = [row for row in sorted(known) if row[0][1] == len(here[row[0][0]])
                         and all(many <= len(other) for many, other in zip(row[1][0], here))]
                if not ready:
                    break
                coming.append(ready[0])
                here = plain_taken(here, [ready[0]])[0]
            came += len(coming) > 1
            self.check_rows(rows, log, len(log_of(start)), coming)
            self.assertEqual(read_house(rows[-1], len(book))[0], taken_in(start, (), heard)[0])
            books = [start]
            for row in coming:
                books.append(plain_taken(books[-1], [row])[0])
            self.assertTrue(all(read_house(row, len(book))[0] in books for row in rows))
        self.assertGreater(came, 10)

    def test_hear_by_hand(self):
        first, second = ((0, 0), ((0, 0), PUT)), ((1, 0), ((0, 0), ("put", ("b",))))
        third = ((0, 1), ((1, 1), ("same", (0, 0), (1, 0))))
        rows = hear_steps((), 2, [third, second, first])
        self.check_rows(rows, (), 0, [first, second, third])
        self.assertEqual(hear_steps((9,), 2, [third]), ((9,), ()))
        other = ((0, 0), ((0, 0), ("put", ("other",))))
        self.check_rows(hear_steps((), 2, [other, first]), (), 0, [other])
        log = write_entry(first)
        self.check_rows(hear_steps(log, 2, (other, first, second, second)), log, len(log), [second])
        keeps(self, InvalidDeed, 1, hear_steps, (), 2, [first, list(second), None])
        keeps(self, InvalidDeed, -1, hear_steps, (), 2, None)
        keeps(self, InvalidDeed, 0, hear_steps, (), 1, [first])
        keeps(self, InvalidBook, 1, hear_steps, (), 2, [((1, 0), ((0, 0), ("back", (0, 0))))])
        keeps(self, InvalidValue, -1, hear_steps, (), 2, [((0, 0), ((0, 0), ("put", ("50%",))))])
        keeps(self, InvalidSize, "entry", hear_steps, (), 2, [((0, 0), ((0, 0), ("put", ("a" * 4086,))))])
        # What can't come needn't be written.
        wait = ((0, 5), ((5, 0), ("put", ("50%",))))
        self.assertEqual(hear_steps((), 2, [wait]), ((), ()))

    def test_houses_that_fall(self):
        # Deeds are told only when they are kept whole: no two unlike ones have one mark, whatever falls.
        choice = chance(614)
        for _ in range(30):
            houses = choice.randint(1, 3)
            logs = [()] * houses
            told = {}
            for _ in range(14):
                house = choice.randrange(houses)
                book = read_house(logs[house], houses)[0]
                if choice.random() < 0.4 and told:
                    rows = hear_steps(logs[house], houses, [choice.choice(sorted(told.items())) for _ in range(3)])
                    logs[house] = choice.choice(rows) if choice.random() < 0.5 else rows[-1]
                else:
                    word = some_word(choice, book, book_vector(book))
                    mark, rows = do_steps(logs[house], houses, house, word)
                    logs[house] = choice.choice(rows) if choice.random() < 0.5 else rows[-1]
                    if logs[house] == rows[-1]:
                        self.assertNotIn(mark, told)
                        told[mark] = (book_vector(book), word)
                self.assertIsNone(closed_fault(read_house(logs[house], houses)[0]))
            for mark, deed in told.items():
                self.assertEqual(read_house(logs[mark[0]], houses)[0][mark[0]][mark[1]], deed)

    def test_early_run(self):
        signs, mark, deed, other = early_run()
        self.assertFalse(has_list(early_run()))
        houses = len(deed[0])
        self.assertNotEqual(deed, other)
        log = write_entry((mark, deed))
        ways = [ahead for ahead in range(len(signs) + 1) if signs[ahead:] == log[:len(signs) - ahead] and len(signs) - ahead < len(log)]
        self.assertTrue(any(read_house(signs[:ahead], houses)[1] == ahead for ahead in ways))
        base = read_house(signs, houses)[0]
        self.assertIn(signs, do_steps(log_of(base), houses, mark[0], deed[1])[1][:-1])
        again, rows = do_steps(signs, houses, mark[0], other[1])
        self.assertEqual(again, mark)
        self.assertEqual(read_house(rows[-1], houses)[0][mark[0]][mark[1]], other)


if __name__ == "__main__":
    unittest.main()
