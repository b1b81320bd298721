"""Houses that meet: books joined, deeds handed over, letters, and what is surely known ([57], [58])."""

from whoiswho.books import counts, greater_numbers, is_deed, is_mark, is_vector, need_book, rank_of, vector_of
from whoiswho.errors import InvalidDeed, InvalidIndex, InvalidLetter, InvalidSize, InvalidVector, NoHouse, Refused
from whoiswho.plain import is_below, is_sequence, is_tuple_of, is_whole, same_value

MOST_HOUSES = 30


def alike_rows(one, other):
    """Whether two houses' rows have no unlike deeds of one mark."""
    return all([same_value(deed, other[at]) for at, deed in enumerate(one[:len(other)])])


def join_books(one, other):
    """Of each house the longer row."""
    need_book(one)
    need_book(other)
    if len(one) != len(other):
        raise Refused(-1)
    for house, row in enumerate(one):
        if not alike_rows(row, other[house]):
            raise Refused(house)
    return tuple([row if len(row) > len(other[house]) else other[house] for house, row in enumerate(one)])


def lacking_deeds(book, vector):
    """(mark, deed) for all deeds of the book that a vector doesn't count, by rising rank."""
    need_book(book)
    if not is_vector(vector, len(book)):
        raise InvalidVector(-1)
    marks = [(house, number) for house, row in enumerate(book) for number in range(vector[house], len(row))]
    rising = sorted([(rank_of(book, mark), mark) for mark in marks])
    return tuple([(mark, book[mark[0]][mark[1]]) for _, mark in rising])


def is_marked_deed(value, houses):
    """Whether any value is (mark, deed) of so many houses, tuples alone."""
    if not is_tuple_of(value, 2) or not is_mark(value[0]) or value[0][0] >= houses:
        return False
    return is_deed(value[1], houses, value[0][0], value[0][1])


def need_deeds(deeds, houses):
    """A sequence of (mark, deed) as a tuple."""
    if not is_sequence(deeds):
        raise InvalidDeed(-1)
    for at, marked in enumerate(deeds):
        if not is_marked_deed(marked, houses):
            raise InvalidDeed(at)
    return tuple(deeds)


def first_handed(book, deeds):
    """By marks, the deeds that the book lacks; of those of one mark the first alone."""
    vector = vector_of(book)
    first = {}
    for mark, deed in deeds:
        if not counts(vector, mark):
            first.setdefault(mark, deed)
    return first


def next_mark(vector, deeds):
    """Of deeds by marks the least house's next one that can come behind so many, or None."""
    for house, number in enumerate(vector):
        mark = (house, number)
        if mark in deeds and greater_numbers(deeds[mark][0], vector) == vector:
            return mark
    return None


def deeds_to_come(book, deeds):
    """(mark, deed) for all of these deeds that can come, each time the least house's next one."""
    left = first_handed(book, deeds)
    vector = vector_of(book)
    coming = []
    mark = next_mark(vector, left)
    while mark is not None:
        coming.append((mark, left[mark]))
        vector = tuple([number + 1 if house == mark[0] else number for house, number in enumerate(vector)])
        mark = next_mark(vector, left)
    return tuple(coming)


def book_behind(book, coming):
    """The book with further deeds, each its house's next one."""
    rows = [row + tuple([deed for mark, deed in coming if mark[0] == house]) for house, row in enumerate(book)]
    return need_book(tuple(rows))


def taken_in(book, waiting, deeds):
    """(the book with all deeds that can come, what waits still, ascending by marks)."""
    need_book(book)
    handed = need_deeds(waiting, len(book)) + need_deeds(deeds, len(book))
    taken = book_behind(book, deeds_to_come(book, handed))
    left = first_handed(taken, handed)
    return taken, tuple([(mark, left[mark]) for mark in sorted(left)])


def surely_knows(book, house, mark):
    """Whether a house made a deed, or has one in the book that has seen it."""
    need_book(book)
    if not is_below(house, len(book)):
        raise NoHouse(house)
    if not is_mark(mark) or not counts(vector_of(book), mark):
        raise InvalidIndex(-1)
    return mark[0] == house or any([counts(deed[0], mark) for deed in book[house]])


def need_houses(houses):
    if not is_whole(houses) or not 1 <= houses <= MOST_HOUSES:
        raise InvalidSize("houses")


def is_letter(value, houses):
    """Whether any value is a tuple (from, to) of unlike houses."""
    return is_tuple_of(value, 2) and is_below(value[0], houses) and is_below(value[1], houses) and value[0] != value[1]


def had_behind(houses, letters):
    """For each house the houses of which it has what they had at first, by numbers."""
    had = [{house: True} for house in range(houses)]
    for writer, reader in letters:
        had[reader].update(had[writer])
    return had


def letters_fault(houses, letters):
    """The first (one, other) such that the other hasn't what the one had, or None."""
    need_houses(houses)
    if not is_sequence(letters):
        raise InvalidLetter(-1)
    for at, letter in enumerate(letters):
        if not is_letter(letter, houses):
            raise InvalidLetter(at)
    had = had_behind(houses, letters)
    for one in range(houses):
        for other in range(houses):
            if one not in had[other]:
                return one, other
    return None


def fewest_letters(houses):
    """Fewest letters behind which all have all: all write to house 0, which writes to all."""
    need_houses(houses)
    others = list(range(1, houses))
    return tuple([(house, 0) for house in others] + [(0, house) for house in others])
