"""Deeds of houses, the books they stand in, and what of them stands ([54] to [56])."""

from whoiswho.errors import InvalidBook, InvalidDeed, InvalidIndex, InvalidState, InvalidVector, NoHouse, Refused
from whoiswho.plain import has_list, is_below, is_name_tuple, is_number, is_rising, is_tuple_of, same_value

MOST_HOUSES = 8
# For each word how many things it has, itself too, and which of them are marks.
WORDS = {
    "put": (2, ()),
    "change": (3, (1,)),
    "same": (3, (1, 2)),
    "unlike": (3, (1, 2)),
    "rule": (2, ()),
    "day": (2, ()),
    "back": (2, (1,)),
}


def is_mark(value):
    """Whether any value is a mark (house, number), a tuple of two numbers."""
    return is_name_tuple(value)


def is_word(value):
    """Whether any value is a word of a deed; what its marks name is not looked at."""
    if not isinstance(value, tuple) or len(value) == 0 or not isinstance(value[0], str):
        return False
    if value[0] not in WORDS:
        return False
    size, places = WORDS[value[0]]
    if len(value) != size or not all([is_mark(value[at]) for at in places]):
        return False
    if len(places) == 2:
        return value[1] < value[2]
    return isinstance(value[-1], tuple) and not has_list(value[-1])


def named_marks(word):
    """The marks that a word names."""
    return [word[at] for at in WORDS[word[0]][1]]


def is_deed(value, houses, house, number):
    """Whether any value can be the deed of this number of one of so many houses."""
    if not is_tuple_of(value, 2) or not is_tuple_of(value[0], houses):
        return False
    if not all([is_number(many) for many in value[0]]):
        return False
    return value[0][house] == number and is_word(value[1])


def is_deed_row(value, houses, house):
    if not isinstance(value, tuple):
        return False
    return all([is_deed(deed, houses, house, number) for number, deed in enumerate(value)])


def counts(vector, mark):
    """Whether a vector counts a mark, which may be of a house that it lacks."""
    return mark[0] < len(vector) and mark[1] < vector[mark[0]]


def vector_of(book):
    return tuple([len(row) for row in book])


def greater_numbers(one, other):
    """Of two vectors, house by house, the greater number."""
    return tuple([max(number, other[house]) for house, number in enumerate(one)])


def seen_so_far(book):
    """For each house and each number of its first deeds what these had seen, all together."""
    rows = []
    for row in book:
        seen = [tuple([0 for _ in book])]
        for deed in row:
            seen.append(greater_numbers(seen[-1], deed[0]))
        rows.append(seen)
    return rows


def names_wrong(book, deed):
    """Whether a deed names a mark that it hasn't seen, or one in the book that it may not name."""
    seen, word = deed
    for mark in named_marks(word):
        if not counts(seen, mark):
            return True
        if counts(vector_of(book), mark):
            named = book[mark[0]][mark[1]][1][0]
            if word[0] == "back":
                if named in ("back", "day"):
                    return True
            elif named != "put":
                return True
    return False


def lacks_seen(so_far, seen):
    """Whether these numbers of deeds lack one that a deed in the book had which they count."""
    for house, number in enumerate(seen):
        row = so_far[house]
        behind = row[min(number, len(row) - 1)]
        if greater_numbers(seen, behind) != seen:
            return True
    return False


def need_book(value):
    """Any value, if it is a book."""
    if not isinstance(value, tuple) or not 1 <= len(value) <= MOST_HOUSES:
        raise InvalidBook(-1)
    for house, row in enumerate(value):
        if not is_deed_row(row, len(value), house):
            raise InvalidBook(house)
    so_far = seen_so_far(value)
    for house, row in enumerate(value):
        if any([names_wrong(value, deed) or lacks_seen(so_far, deed[0]) for deed in row]):
            raise InvalidBook(house)
    return value


def book_vector(book):
    """How many deeds each house has in the book."""
    return vector_of(need_book(book))


def closed_fault(book):
    """None, or the first mark of a deed that has seen one that isn't in the book."""
    return fault_of(need_book(book))


def fault_of(book):
    vector = vector_of(book)
    for house, row in enumerate(book):
        for number, deed in enumerate(row):
            if greater_numbers(deed[0], vector) != vector:
                return house, number
    return None


def is_vector(value, houses):
    """Whether any value is a tuple of numbers, one for each of so many houses."""
    return is_tuple_of(value, houses) and all([is_number(number) for number in value])


def lower_book(book, vector):
    """The book of so many first deeds of each house."""
    need_book(book)
    if not is_vector(vector, len(book)) or greater_numbers(vector, vector_of(book)) != vector_of(book):
        raise InvalidVector(-1)
    lower = first_deeds(book, vector)
    if fault_of(lower) is not None:
        raise Refused(-1)
    return lower


def first_deeds(book, vector):
    """The book of so many first deeds of each house, closed or not."""
    return tuple([row[:vector[house]] for house, row in enumerate(book)])


def deed_rank(book, mark):
    """The rank of a deed in the book: (sum of its seen, house)."""
    need_book(book)
    if not is_mark(mark) or not counts(vector_of(book), mark):
        raise InvalidIndex(-1)
    return rank_of(book, mark)


def rank_of(book, mark):
    return sum(book[mark[0]][mark[1]][0]), mark[0]


def words_of(book):
    """All (mark, word), ascending by marks."""
    return [((house, number), row[number][1]) for house, row in enumerate(book) for number in range(len(row))]


def words_standing(book):
    """As standing_words, of a book that is known to be right."""
    words = words_of(book)
    back = {word[1]: True for _, word in words if word[0] == "back"}
    return tuple([(mark, word) for mark, word in words if word[0] != "back" and mark not in back])


def standing_marks(book):
    """Ascending, the marks of the words that stand."""
    return tuple([mark for mark, _ in words_standing(need_book(book))])


def standing_words(book):
    """Ascending by marks, (mark, word) of the words that stand."""
    return words_standing(need_book(book))


def words_about(words, subject):
    """Of standing words the marks of those that tell a subject: a put's mark, "rule" or "day"."""
    if isinstance(subject, str):
        return [mark for mark, word in words if word[0] == subject]
    puts = [mark for mark, word in words if mark == subject and word[0] == "put"]
    if len(puts) == 0:
        return []
    return puts + [mark for mark, word in words if word[0] == "change" and word[1] == subject]


def told_word(book, subject):
    """(mark, others): the mark of the greatest rank that tells a subject, others by rising rank."""
    need_book(book)
    if not is_mark(subject) and not (isinstance(subject, str) and subject in ("rule", "day")):
        raise InvalidIndex(-1)
    marks = words_about(words_standing(book), subject)
    if len(marks) == 0:
        return (None, ())
    rising = [mark for _, mark in sorted([(rank_of(book, mark), mark) for mark in marks])]
    return rising[-1], tuple(rising[:-1])


def compact_book(book):
    """(vector, rows): the short form of a closed book, (mark, rank, word) of all that stands."""
    need_book(book)
    if fault_of(book) is not None:
        raise Refused(-1)
    return vector_of(book), tuple([(mark, rank_of(book, mark), word) for mark, word in words_standing(book)])


def is_state_row(value, vector):
    """Whether any value is (mark, rank, word) of a short form with this vector."""
    if not is_tuple_of(value, 3) or not is_mark(value[0]) or not counts(vector, value[0]):
        return False
    mark, rank, word = value
    return is_name_tuple(rank) and rank[1] == mark[0] and is_word(word) and word[0] != "back"


def is_state(value):
    """Whether any value is a short form."""
    if not is_tuple_of(value, 2) or not isinstance(value[0], tuple) or not isinstance(value[1], tuple):
        return False
    vector, rows = value
    if not 1 <= len(vector) <= MOST_HOUSES or not is_vector(vector, len(vector)):
        return False
    return all([is_state_row(row, vector) for row in rows]) and is_rising([row[0] for row in rows])


def kept_rows(state, other):
    """The rows of a short form that are in the other one, too, or that its vector doesn't count."""
    theirs = {row[0]: row for row in other[1]}
    kept = []
    for row in state[1]:
        mark = row[0]
        if not counts(other[0], mark) or (mark in theirs and same_value(row, theirs[mark])):
            kept.append(row)
    return kept


def join_compact(one, other):
    """The short form of two books together, told by their short forms alone."""
    if not is_state(one):
        raise InvalidState(0)
    if not is_state(other):
        raise InvalidState(1)
    if len(one[0]) != len(other[0]):
        raise Refused(-1)
    rows = {row[0]: row for row in kept_rows(one, other) + kept_rows(other, one)}
    return greater_numbers(one[0], other[0]), tuple([rows[mark] for mark in sorted(rows)])


def can_do(state, word):
    """Whether any value is a word that a house with this short form can do."""
    if not is_word(word) or not all([counts(state[0], mark) for mark in named_marks(word)]):
        return False
    if word[0] != "back":
        return True
    return not any([row[0] == word[1] and row[2][0] == "day" for row in state[1]])


def compact_do(state, house, word):
    """(the short form behind a further deed of a house that has just this one, its mark)."""
    if not is_state(state):
        raise InvalidState(-1)
    vector, rows = state
    if not is_below(house, len(vector)):
        raise NoHouse(house)
    if not can_do(state, word):
        raise InvalidDeed(-1)
    mark = (house, vector[house])
    counted = tuple([number + 1 if at == house else number for at, number in enumerate(vector)])
    if word[0] == "back":
        return (counted, tuple([row for row in rows if row[0] != word[1]])), mark
    # A house's next number is above all its own marks, but other houses' marks come behind it.
    ahead = tuple([row for row in rows if row[0] < mark])
    behind = tuple([row for row in rows if row[0] > mark])
    return (counted, ahead + ((mark, (sum(vector), house), word),) + behind), mark


def gap_books():
    """Two books, not both closed, and a mark: short forms of such can't be joined."""
    # The back alone, without the deed that it has seen, leaves no trace in a short form.
    put = ((0, 0), ("put", ("ann",)))
    back = ((1, 0), ("back", (0, 0)))
    return ((put,), ()), ((), (back,)), (0, 0)
