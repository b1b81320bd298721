"""Worlds of houses: events, what each house knew at a moment, and which moments may have been ([62], [63])."""

from whoiswho.books import fault_of, first_deeds, greater_numbers, is_mark, is_vector, lower_book, names_wrong
from whoiswho.books import need_book, rank_of, vector_of, words_of, words_standing
from whoiswho.deeds import is_lot_word, need_lot, people_told
from whoiswho.errors import InvalidDeed, InvalidEvents, InvalidIndex, InvalidSize, InvalidVector, NoHouse, Refused
from whoiswho.errors import WhoError
from whoiswho.plain import is_below, is_number, is_sequence, is_whole

MOST_HOUSES = 8
# For each event how many things it has, its word too.
EVENTS = {"do": 3, "write": 2, "read": 3}


def is_event(value):
    """Whether any value is a sequence of an event; what stands behind its word is not looked at."""
    if not is_sequence(value) or len(value) == 0 or not isinstance(value[0], str):
        return False
    return EVENTS.get(value[0], 0) == len(value)


def is_world_word(value):
    """Whether any value is a word that a world's house may do, if it may name what it names."""
    return is_lot_word(value) or is_back(value)


def is_back(value):
    return isinstance(value, tuple) and len(value) == 2 and value[0] == "back" and is_mark(value[1])


class World:
    """Houses that do deeds and write letters: all deeds, what each house has of them, and the letters."""

    def __init__(self, houses):
        if not is_whole(houses) or not 1 <= houses <= MOST_HOUSES:
            raise InvalidSize("houses")
        noughts = tuple([0 for _ in range(houses)])
        self.book = tuple([() for _ in range(houses)])
        self.vectors = tuple([noughts for _ in range(houses)])
        self.letters = ()

    def do_event(self, event):
        """Does an event; tells a deed's mark, a letter's number or a vector."""
        if not is_event(event):
            raise InvalidEvents(-1)
        word, house = event[0], event[1]
        if not is_below(house, len(self.book)):
            raise NoHouse(house)
        if word == "do":
            return self.do_deed(house, event[2])
        if word == "read":
            return self.read_letter(house, event[2])
        self.letters = self.letters + (self.vectors[house],)
        return len(self.letters) - 1

    def do_deed(self, house, word):
        """Does a deed of a house, which has seen what the house knows; tells its mark."""
        deed = (self.vectors[house], word)
        if not is_world_word(word) or names_wrong(self.book, deed):
            raise InvalidDeed(-1)
        mark = (house, len(self.book[house]))
        self.book = tuple([row + (deed,) if at == house else row for at, row in enumerate(self.book)])
        self.put_vector(house, with_one_more(self.vectors[house], house))
        return mark

    def read_letter(self, house, letter):
        """Has a house read a letter; tells its vector."""
        if not is_below(letter, len(self.letters)):
            raise InvalidIndex(-1)
        return self.put_vector(house, greater_numbers(self.vectors[house], self.letters[letter]))

    def put_vector(self, house, vector):
        """Gives a house another vector, and tells it."""
        self.vectors = tuple([vector if at == house else row for at, row in enumerate(self.vectors)])
        return vector


def with_one_more(vector, house):
    """A vector that counts one more deed of a house."""
    return tuple([number + 1 if at == house else number for at, number in enumerate(vector)])


def do_all(world, events):
    """How many events a world does, up to the first that can't be done."""
    for at, event in enumerate(events):
        try:
            world.do_event(event)
        except WhoError:
            return at
    return len(events)


def events_world(houses, events):
    """The world behind events."""
    world = World(houses)
    if not is_sequence(events):
        raise InvalidEvents(-1)
    many = do_all(world, events)
    if many < len(events):
        raise InvalidEvents(many)
    return world


def need_moment(events, moment):
    """Raises the error of a moment that is no number up to that of the events."""
    if not is_number(moment) or moment > len(events):
        raise InvalidIndex(-1)


def vector_at(houses, events, moment, house):
    """What a house had at a moment."""
    events_world(houses, events)
    need_moment(events, moment)
    if not is_below(house, houses):
        raise NoHouse(house)
    return events_world(houses, events[:moment]).vectors[house]


def rows_of(book, words):
    """A lot of words: (mark, rank, word) for each (mark, word)."""
    return tuple([(mark, rank_of(book, mark), word) for mark, word in words])


def lot_of(book):
    """The lot of what stands in a right book."""
    return need_lot(rows_of(book, words_standing(book)))


def told_of(book, known):
    """The people over a right book; known keeps for each rule what it says of fields."""
    return people_told(lot_of(book), known)


def told_from(book, vector):
    """The people over so many first deeds of each house."""
    return told_of(lower_book(book, vector), {})


def told_at(houses, events, moment, house):
    """What a house told at a moment."""
    vector = vector_at(houses, events, moment, house)
    return told_from(events_world(houses, events).book, vector)


def need_closed(book):
    need_book(book)
    if fault_of(book) is not None:
        raise Refused(-1)


def need_house_of(book, house):
    """A closed book, and one of its houses."""
    need_closed(book)
    if not is_below(house, len(book)):
        raise NoHouse(house)


def is_vector_of(book, value):
    """Whether any value is a vector of at most the book's numbers."""
    return is_vector(value, len(book)) and greater_numbers(value, vector_of(book)) == vector_of(book)


def first_greater(one, other):
    """The first house of which the one vector counts more than the other, or None."""
    greater = [house for house, number in enumerate(one) if number > other[house]]
    return greater[0] if len(greater) > 0 else None


def open_fault(book, vector):
    """("open", mark, other) for the least mark counted of a deed that has seen one not counted, or None."""
    for house, number in enumerate(vector):
        for at, deed in enumerate(book[house][:number]):
            other = first_greater(deed[0], vector)
            if other is not None:
                return ("open", (house, at), other)
    return None


def late_fault(book, house, vector):
    """("late", other) for the first house of which the vector counts what the next deed hasn't seen, or None."""
    if vector[house] == len(book[house]):
        return None
    other = first_greater(vector, book[house][vector[house]][0])
    return None if other is None else ("late", other)


def fault_at(book, house, vector):
    """As possible_fault, of right things."""
    fault = open_fault(book, vector)
    return late_fault(book, house, vector) if fault is None else fault


def possible_fault(book, house, vector):
    """None if a house may have had a vector, or what speaks against it."""
    need_house_of(book, house)
    if not is_vector_of(book, vector):
        raise InvalidVector(-1)
    return fault_at(book, house, vector)


def reads_of(house, vector, letters):
    """The events by which a house reads what a vector counts: each other house's letter behind its last such deed."""
    others = [(other, number - 1) for other, number in enumerate(vector) if other != house and number > 0]
    return [("read", house, letters[mark]) for mark in others]


def possible_events(book, house, vector):
    """(events, moment) by which a world comes to just this book, and the house has the vector at the moment."""
    if possible_fault(book, house, vector) is not None:
        raise Refused("fault")
    words = {mark: word for mark, word in words_of(book)}
    marks = [mark for _, mark in sorted([(rank_of(book, mark), mark) for mark in words])]
    events, letters, moment = [], {}, None
    for mark in marks:
        # All that the vector counts is seen by the house's next deed, so it is done and written ahead of it.
        if mark == (house, vector[house]):
            events.extend(reads_of(house, vector, letters))
            moment = len(events)
        events.extend(reads_of(mark[0], book[mark[0]][mark[1]][0], letters))
        events.extend([("do", mark[0], words[mark]), ("write", mark[0])])
        letters[mark] = len(letters)
    if moment is None:
        events.extend(reads_of(house, vector, letters))
        moment = len(events)
    return tuple(events), moment


def closed_vectors(book):
    """All closed vectors of a closed book."""
    found = {tuple([0 for _ in book]): True}
    vectors = list(found)
    at = 0
    while at < len(vectors):
        vector = vectors[at]
        at += 1
        for house, row in enumerate(book):
            if vector[house] < len(row) and first_greater(row[vector[house]][0], vector) is None:
                further = with_one_more(vector, house)
                if further not in found:
                    found[further] = True
                    vectors.append(further)
    return vectors


def vectors_possible(book, house):
    """As possible_vectors, of right things."""
    return tuple(sorted([vector for vector in closed_vectors(book) if late_fault(book, house, vector) is None]))


def possible_vectors(book, house):
    """Ascending, all vectors that a house may have had."""
    need_house_of(book, house)
    return vectors_possible(book, house)


def possible_people(book, house):
    """Ascending, all people that a house may have told."""
    need_house_of(book, house)
    known = {}
    told = {told_of(first_deeds(book, vector), known): True for vector in vectors_possible(book, house)}
    return tuple(sorted(told))
