"""[64]: what would be told without deeds or with an event more, and which deeds turned an answer."""

import itertools
import unittest

from helpers import chance, check_ways, has_list, keeps, odd_values, same
from worlds import RULES, marks_of, plain_done, plain_lot, plain_start, some_event, some_events, some_world, told_word
from whoiswho.deeds import told_people
from whoiswho.errors import InvalidBook, InvalidEvents, InvalidIndex, InvalidLot, InvalidSize, InvalidVector, NoHouse, Refused
from whoiswho.moments import possible_vectors, told_from
from whoiswho.rules import pair_likeness
from whoiswho.why import near_marks, told_if, told_less, turn_grounds, turn_marks, turn_needs

PUT = ("put", ("ann",))
BOOK = ((((0, 0), PUT), ((1, 0), ("rule", RULES[0]))), (((1, 0), PUT), ((2, 1), ("unlike", (0, 0), (1, 0)))))
TURNS = [turn_marks, near_marks, turn_grounds, turn_needs]


def word_at(book, mark):
    return book[mark[0]][mark[1]][1]


def answer(book, deeds, one, other):
    return any(one in group and other in group for group in told_people(plain_lot(book, deeds)))


def plain_turns(book, low, high, one, other):
    between = [mark for mark in marks_of(high) if mark not in marks_of(low)]
    deeds, turning = marks_of(low), []
    for mark in sorted(between, key=lambda mark: (sum(book[mark[0]][mark[1]][0]), mark[0])):
        before = answer(book, deeds, one, other)
        deeds = deeds + [mark]
        if answer(book, deeds, one, other) != before:
            turning.append(mark)
    return tuple(turning)


def plain_near(book, low, high, one, other):
    deeds = marks_of(high)
    words = {mark: word_at(book, mark) for mark in deeds}
    told = {mark: [words[mark][1]] for mark in deeds if words[mark][0] == "put"}
    for word in words.values():
        if word[0] == "change":
            told[word[1]].append(word[2])
    rules = [word[1] for word in words.values() if word[0] == "rule"]
    ties = [set(word[1:]) for word in words.values() if word[0] == "same"]
    for pair in itertools.combinations(told, 2):
        if any(pair_likeness(rule, a, b)[0] == "link" for rule in rules for a in told[pair[0]] for b in told[pair[1]]):
            ties.append(set(pair))
    near = {one, other}
    for _ in told:
        near |= {end for tie in ties if tie & near for end in tie}

    def is_such(mark):
        word = words[mark]
        if word[0] == "back":
            return is_such(word[1])
        return {"rule": lambda: True, "put": lambda: mark in near, "change": lambda: word[1] in near, "day": lambda: False,
                "same": lambda: set(word[1:]) <= near, "unlike": lambda: set(word[1:]) <= near}[word[0]]()
    return tuple(mark for mark in deeds if mark not in marks_of(low) and is_such(mark))


def lots_of(marks):
    return [lot for many in range(len(marks) + 1) for lot in itertools.combinations(marks, many)]


def plain_least(book, low, high, one, other, needs, between=None):
    """All least lots of deeds between, gone through, of all deeds or of some."""
    if between is None:
        between = [mark for mark in marks_of(high) if mark not in marks_of(low)]
    wanted = answer(book, marks_of(low if needs else high), one, other)
    least = []
    for lot in lots_of(between):
        if not any(set(part) <= set(lot) for part in least):
            deeds = [mark for mark in marks_of(high) if mark not in lot] if needs else marks_of(low) + list(lot)
            if answer(book, deeds, one, other) == wanted:
                least.append(lot)
    return tuple(sorted(least))


def some_question(choice, houses, deeds):
    """(book, low, high, one, other), or None if high counts no two puts."""
    book, vectors = some_world(choice, houses, deeds, told_word)
    high = choice.choice(vectors + [tuple(map(len, book))] * 3)
    lower = [vector for vector in vectors if all(a <= b for a, b in zip(vector, high))]
    puts = [mark for mark in marks_of(high) if word_at(book, mark)[0] == "put"]
    if len(puts) < 2 or not lower:
        return None
    return (book, choice.choice(lower), high) + tuple(choice.sample(puts, 2))


class LessTest(unittest.TestCase):
    def test_without_deeds(self):
        choice = chance(64)
        changed = 0
        for _ in range(80):
            book, _ = some_world(choice, choice.randint(1, 3), choice.randint(0, 16), told_word)
            marks = marks_of(tuple(map(len, book)))
            for _ in range(4):
                gone = choice.sample(marks, choice.randint(0, min(3, len(marks))))
                people = told_people(plain_lot(book, [mark for mark in marks if mark not in gone]))
                self.assertTrue(same(told_less(book, gone), people))
                self.assertTrue(same(told_less(book, tuple(reversed(gone))), people))
                changed += people != told_people(plain_lot(book, marks))
                if not any(word_at(book, mark)[0] in ("back", "day") for mark in gone):
                    # As behind taking them back, by a house that has seen all.
                    vector = tuple(map(len, book))
                    row = tuple(((len(book[0]) + at,) + vector[1:], ("back", mark)) for at, mark in enumerate(gone))
                    longer = (book[0] + row,) + book[1:]
                    self.assertEqual(told_from(longer, (len(longer[0]),) + vector[1:]), people)
        self.assertGreater(changed, 60)

    def test_by_hand(self):
        self.assertEqual(told_less(BOOK, ()), (((0, 0),), ((1, 0),)))
        self.assertEqual(told_less(BOOK, [(1, 1)]), (((0, 0), (1, 0)),))
        self.assertEqual(told_less(BOOK, [(1, 1), (0, 1)]), (((0, 0),), ((1, 0),)))
        self.assertEqual(told_less(marks=[(0, 0)], book=BOOK), (((1, 0),),))
        # Without a back its word stands again.
        book = ((((0,), PUT), ((1,), ("back", (0, 0)))),)
        self.assertEqual((told_less(book, ()), told_less(book, [(0, 1)]), told_less(book, [(0, 0)])), ((), (((0, 0),),), ()))

    def test_errors(self):
        for value in odd_values():
            if not same(value, ((),)):
                keeps(self, InvalidBook, 0 if type(value) is tuple and value else -1, told_less, value, None)
            check_ways(self, told_less, (BOOK, value))
            check_ways(self, told_less, (BOOK, ((0, 0), value)))
        for marks in (None, 3, True, "ab", {}):
            keeps(self, InvalidIndex, -1, told_less, BOOK, marks)
        for mark in (None, 3, (0,), (0, 2), (2, 0), (-1, 0), (True, 0), [0, 1], (0, 0), "ab"):
            keeps(self, InvalidIndex, 1, told_less, BOOK, [(0, 0), mark, None])
        # Behind all else: what lots refuse.
        keeps(self, InvalidLot, 0, told_less, ((((0,), ("put", ())),),), ())
        keeps(self, InvalidIndex, 0, told_less, ((((0,), ("put", ())),),), [3])
        self.assertEqual(told_less(((((0,), ("put", ())),),), [(0, 0)]), ())
        mixed = ((((0,), ("put", (3,))), ((1,), ("rule", RULES[0]))),)
        keeps(self, InvalidLot, -1, told_less, mixed, ())
        self.assertEqual(told_less(mixed, [(0, 1)]), (((0, 0),),))


class IfTest(unittest.TestCase):
    def test_events_more(self):
        choice = chance(641)
        short = 0
        for _ in range(60):
            houses = choice.randint(1, 3)
            events, _ = some_events(choice, houses, choice.randint(0, 16))
            for _ in range(3):
                moment = choice.randint(0, len(events))
                _, state = some_events(choice, houses, 8)
                event = choice.choice([some_event(choice, state), some_event(choice, state), None, ("read", 0, 99), ("write", 0)])
                row, many, state = events[:moment] + (event,) + events[moment:], 0, plain_start(houses)
                for told in row:
                    done = plain_done(state, told) if told is not None else None
                    if done is None:
                        break
                    state, many = done[0], many + 1
                people = tuple(told_people(plain_lot(state[0], marks_of(vector))) for vector in state[1])
                short += many < len(row)
                self.assertTrue(same(told_if(houses, events, moment, event), (many, people)))
                self.assertTrue(same(told_if(houses, list(events), moment, list(event) if event else event), (many, people)))
        self.assertGreater(short, 40)

    def test_by_hand(self):
        events = (("do", 0, PUT), ("write", 0), ("read", 1, 0))
        self.assertEqual(told_if(2, events, 1, ("do", 0, PUT)), (4, ((((0, 0),), ((0, 1),)), (((0, 0),), ((0, 1),)))))
        self.assertEqual(told_if(2, events, 3, ("do", 0, ("back", (0, 0)))), (4, ((), (((0, 0),),))))
        # A letter more ahead: the old events read another one.
        self.assertEqual(told_if(2, events, 0, ("write", 1)), (4, ((((0, 0),),), ())))
        self.assertEqual(told_if(2, events, 1, None), (1, ((((0, 0),),), ())))

    def test_errors(self):
        events = (("do", 0, PUT), ("write", 0))
        for houses in (0, 9, True, None, "2"):
            keeps(self, InvalidSize, "houses", told_if, houses, None, None, None)
        keeps(self, InvalidEvents, -1, told_if, 2, None, None, None)
        keeps(self, InvalidEvents, 1, told_if, 2, [events[0], ("read", 0, 0)], None, None)
        for moment in (3, -1, True, None, "1", (1,)):
            keeps(self, InvalidIndex, -1, told_if, 2, events, moment, None)
        for value in odd_values():
            check_ways(self, told_if, (2, value, 0, events[0]))
            check_ways(self, told_if, (2, events, value, events[0]))
            check_ways(self, told_if, (2, events, 1, value))
            self.assertEqual(told_if(2, events, 1, value)[0], 1)
        mixed = (("do", 0, ("put", (3,))), ("do", 1, ("rule", RULES[0])))
        self.assertEqual(told_if(2, mixed, 2, ("write", 0))[0], 3)
        keeps(self, InvalidLot, -1, told_if, 2, mixed, 1, ("do", 0, ("rule", RULES[0])))


class TurnTest(unittest.TestCase):
    def test_turns_and_near_marks(self):
        choice = chance(642)
        found = {0: 0, 1: 0, 2: 0}
        for _ in range(250):
            question = some_question(choice, choice.randint(1, 3), choice.randint(4, 24))
            if question is None:
                continue
            book, low, high, one, other = question
            turning = turn_marks(*question)
            self.assertTrue(same(turning, plain_turns(*question)))
            unlike = answer(book, marks_of(low), one, other) != answer(book, marks_of(high), one, other)
            self.assertEqual(len(turning) % 2 == 1, unlike)
            near = near_marks(*question)
            self.assertTrue(same(near, plain_near(*question)))
            self.assertLessEqual(set(turning), set(near))
            self.assertTrue(same(turn_marks(book, low, high, other, one), turning))
            found[min(2, len(turning))] += 1
        self.assertGreater(min(found.values()), 8)

    def test_least_lots(self):
        choice = chance(643)
        found, sizes = {True: 0, False: 0}, set()
        many = 0
        while many < 60:
            question = some_question(choice, choice.randint(1, 2), choice.randint(4, 12))
            if question is None or len(marks_of(question[2])) - len(marks_of(question[1])) > 8:
                continue
            many += 1
            near = near_marks(*question)
            for function, needs in ((turn_grounds, False), (turn_needs, True)):
                lots = function(*question)
                self.assertTrue(same(lots, plain_least(*question, needs)), (question, needs))
                self.assertTrue(all(set(lot) <= set(near) for lot in lots))
                found[lots == ((),)] += 1
                sizes |= {len(lot) for lot in lots}
        self.assertGreater(min(found.values()), 20)
        self.assertLessEqual({0, 1, 2}, sizes)

    def test_ten_near_marks_at_most(self):
        choice = chance(644)
        found = {True: 0, False: 0}
        while min(found.values()) < 5:
            question = some_question(choice, choice.randint(1, 3), 32)
            if question is None:
                continue
            near = near_marks(*question)
            found[len(near) > 10] += 1
            for function, needs in ((turn_grounds, False), (turn_needs, True)):
                if len(near) > 10:
                    keeps(self, InvalidSize, "deeds", function, *question)
                elif len(near) < 8:
                    self.assertTrue(same(function(*question), plain_least(*question, needs, near)))

    def test_just_ten(self):
        words = [("rule", RULES[0]), PUT, PUT] + [("change", (0, 1), ("ann",))] * 11
        book = (tuple(((number,), word) for number, word in enumerate(words)),)
        for low, high in ((3, 13), (4, 14), (2, 12)):
            self.assertEqual(len(near_marks(book, (low,), (high,), (0, 1), (0, 2))), 10)
            grounds = turn_grounds(book, (low,), (high,), (0, 1), (0, 2))
            self.assertEqual(grounds, ((),) if low > 2 else (((0, 2),),))
        for function in (turn_grounds, turn_needs):
            keeps(self, InvalidSize, "deeds", function, book, (3,), (14,), (0, 1), (0, 2))

    def test_by_hand(self):
        one, other = (0, 0), (1, 0)
        self.assertEqual(turn_marks(BOOK, (1, 1), (2, 1), one, other), ((0, 1),))
        self.assertEqual(turn_marks(BOOK, (0, 0), (2, 2), one, other), ((1, 0), (1, 1)))
        self.assertEqual(near_marks(BOOK, (0, 0), (2, 2), one, other), ((0, 0), (0, 1), (1, 0), (1, 1)))
        self.assertEqual(near_marks(BOOK, (2, 1), (2, 2), one, other), ((1, 1),))
        self.assertEqual(turn_grounds(BOOK, (2, 1), (2, 2), one, other), (((1, 1),),))
        self.assertEqual(turn_needs(BOOK, (2, 1), (2, 2), one, other), (((1, 1),),))
        self.assertEqual(turn_grounds(BOOK, (0, 0), (2, 1), one, other), (((0, 0), (0, 1), (1, 0)),))
        self.assertEqual(turn_needs(BOOK, (0, 0), (2, 1), one, other), (((0, 0),), ((0, 1),), ((1, 0),)))
        self.assertEqual(turn_grounds(BOOK, (1, 1), (1, 1), one, other), ((),))
        # A back of a low deed is near; a record that hangs together with neither isn't, nor what names it with a near one.
        far = ("put", ("zzzzzz",))
        book = ((((0,), PUT), ((1,), PUT), ((2,), ("rule", RULES[0])), ((3,), far), ((4,), ("unlike", (0, 0), (0, 3))), ((5,), ("day", ())),
                 ((6,), ("back", (0, 2))), ((7,), ("back", (0, 3))), ((8,), ("back", (0, 4))), ((9,), ("change", (0, 1), ("b",)))),)
        self.assertEqual(near_marks(book, (3,), (10,), (0, 0), (0, 1)), ((0, 6), (0, 9)))
        self.assertEqual(near_marks(book, (3,), (10,), (0, 0), (0, 3)), ((0, 3), (0, 4), (0, 6), (0, 7), (0, 8), (0, 9)))
        self.assertEqual(turn_marks(book, (3,), (10,), (0, 0), (0, 1)), ((0, 6),))
        # Behind another deed the change alone will do, too.
        self.assertEqual(turn_grounds(book, (3,), (10,), (0, 0), (0, 1)), (((0, 6),), ((0, 9),)))
        self.assertEqual(turn_needs(book, (3,), (10,), (0, 0), (0, 1)), (((0, 6), (0, 9)),))

    def test_errors(self):
        half = ((((0, 1), PUT),), ())
        for function in TURNS:
            for value in odd_values():
                if not same(value, ((),)):
                    keeps(self, InvalidBook, 0 if type(value) is tuple and value else -1, function, value, *[None] * 4)
                for at in range(5):
                    args = [BOOK, (0, 0), (2, 2), (0, 0), (1, 0)]
                    args[at] = value
                    check_ways(self, function, args)
            check_ways(self, function, (BOOK, (0, 0), (2, 2), (0, 0), (1, 0)))
            keeps(self, Refused, -1, function, half, *[None] * 4)
            for vector in (None, 3, (), (0,), (0, 0, 0), [0, 0], (0, True), (3, 0), (-1, 0), (0, 1)):
                keeps(self, InvalidVector, 0, function, BOOK, vector, None, None, None)
                keeps(self, InvalidVector, 1, function, BOOK, (1, 1), vector, None, None)
            keeps(self, InvalidVector, 0, function, BOOK, (2, 0), (1, 1), None, None)
            for mark in (None, 3, (0,), [0, 0], (0, 1), (1, 1), (0, 2), (2, 0), (True, 0), "ab"):
                keeps(self, InvalidIndex, 0, function, BOOK, (0, 0), (2, 2), mark, None)
                keeps(self, InvalidIndex, 1, function, BOOK, (0, 0), (2, 2), (1, 0), mark)
            keeps(self, InvalidIndex, 1, function, BOOK, (0, 0), (2, 2), (1, 0), (1, 0))
            keeps(self, InvalidIndex, 1, function, BOOK, (0, 0), (2, 0), (0, 0), (1, 0))
            odd = ((((0,), PUT), ((1,), PUT), ((2,), ("put", ()))),)
            keeps(self, InvalidLot, 2, function, odd, (0,), (3,), (0, 0), (0, 1))
            keeps(self, InvalidIndex, 1, function, odd, (0,), (3,), (0, 0), (0, 5))
            self.assertFalse(has_list(function(odd, (0,), (2,), (0, 0), (0, 1))))

    def test_possible_vectors_may_be_passed(self):
        choice = chance(645)
        for _ in range(20):
            book, _ = some_world(choice, 2, 12, told_word)
            vectors = possible_vectors(book, 0)
            high = vectors[-1]
            puts = [mark for mark in marks_of(high) if word_at(book, mark)[0] == "put"]
            if len(puts) > 1:
                self.assertTrue(same(turn_marks(book, vectors[0], high, *puts[:2]), plain_turns(book, vectors[0], high, *puts[:2])))
        keeps(self, NoHouse, 3, possible_vectors, BOOK, 3)


if __name__ == "__main__":
    unittest.main()
