"""What would be told without some deeds or with an event more, and which deeds turned an answer ([64])."""

from whoiswho.books import counts, first_deeds, is_mark, need_book, rank_of, vector_of, words_of
from whoiswho.choices import all_lots
from whoiswho.deeds import need_lot, people_told
from whoiswho.errors import InvalidIndex, InvalidSize, InvalidVector
from whoiswho.grounds import has_part
from whoiswho.links import word_and_sum
from whoiswho.moments import World, do_all, events_world, first_greater, is_vector_of, need_closed, need_moment
from whoiswho.moments import open_fault, rows_of, told_of
from whoiswho.plain import is_sequence, tied_lots

MOST_NEAR = 10


def standing_rows(book, words):
    """The lot of what stands of some (mark, word) of a book, these words alone."""
    back = {word[1]: True for _, word in words if word[0] == "back"}
    return rows_of(book, [(mark, word) for mark, word in words if word[0] != "back" and mark not in back])


def told_less(book, marks):
    """The people if these deeds alone had not been done."""
    vector = vector_of(need_book(book))
    if not is_sequence(marks):
        raise InvalidIndex(-1)
    left = {}
    for at, mark in enumerate(marks):
        if not is_mark(mark) or not counts(vector, mark) or mark in left:
            raise InvalidIndex(at)
        left[mark] = True
    words = [(mark, word) for mark, word in words_of(book) if mark not in left]
    return people_told(need_lot(standing_rows(book, words)), {})


def told_if(houses, events, moment, event):
    """(how many events can be done, each house's people) with one put in at a moment."""
    events_world(houses, events)
    need_moment(events, moment)
    world = World(houses)
    row = list(events[:moment]) + [event] + list(events[moment:])
    many = do_all(world, row)
    known = {}
    return many, tuple([told_of(first_deeds(world.book, vector), known) for vector in world.vectors])


def need_put(book, vector, mark, place):
    """The mark of a put that a vector counts."""
    if not is_mark(mark) or not counts(vector, mark) or book[mark[0]][mark[1]][1][0] != "put":
        raise InvalidIndex(place)


def need_turn(book, low, high, one, other):
    """Raises the errors of a closed book, two closed vectors, and marks of two puts."""
    need_closed(book)
    for place, vector in enumerate((low, high)):
        if not is_vector_of(book, vector) or open_fault(book, vector) is not None:
            raise InvalidVector(place)
    if first_greater(low, high) is not None:
        raise InvalidVector(0)
    need_put(book, high, one, 0)
    need_put(book, high, other, 1)
    if one == other:
        raise InvalidIndex(1)
    words = [(mark, word) for mark, word in words_of(book) if counts(high, mark) and word[0] != "back"]
    need_lot(rows_of(book, words))


def words_counted(book, vector):
    """(mark, word) of the deeds that a vector counts, ascending."""
    return [(mark, word) for mark, word in words_of(book) if counts(vector, mark)]


def answer_over(book, words, pair, known):
    """Whether both of a pair are one person over some (mark, word); known keeps what rules say of fields."""
    people = people_told(standing_rows(book, words), known)
    return any([pair[0] in group and pair[1] in group for group in people])


def turn_marks(book, low, high, one, other):
    """By rank, the marks between behind which the answer is another one."""
    need_turn(book, low, high, one, other)
    known, words, turning = {}, words_counted(book, low), []
    answer = answer_over(book, words, (one, other), known)
    between = [(rank_of(book, mark), mark, word) for mark, word in words_counted(book, high) if not counts(low, mark)]
    for _, mark, word in sorted(between, key=lambda row: row[0]):
        words = sorted(words + [(mark, word)], key=lambda row: row[0])
        behind = answer_over(book, words, (one, other), known)
        if behind != answer:
            turning.append(mark)
        answer = behind
    return tuple(turning)


def told_fields(words):
    """For each put all fields that were told of it, its own and those of changes."""
    told = {mark: [word[1]] for mark, word in words if word[0] == "put"}
    for _, word in words:
        if word[0] == "change":
            told[word[1]].append(word[2])
    return told


def may_link(rules, ones, others):
    """Whether some rule links some fields of the one with some of the other."""
    for rule in rules:
        if any([word_and_sum(rule, one, other)[0] == "link" for one in ones for other in others]):
            return True
    return False


def near_records(words, pair):
    """The records that hang together with one of a pair by words, standing or not."""
    told = told_fields(words)
    rules = [word[1] for _, word in words if word[0] == "rule"]
    names = sorted(told)
    ties = [(word[1], word[2]) for _, word in words if word[0] == "same"]
    for at, one in enumerate(names):
        ties.extend([(one, other) for other in names[at + 1:] if may_link(rules, told[one], told[other])])
    lots = tied_lots(names, ties)
    return [name for lot in lots if pair[0] in lot or pair[1] in lot for name in lot]


def is_near(mark, word, near, words):
    """Whether a deed is a rule, brings, changes or names near records alone, or takes such a one back."""
    if word[0] == "back":
        return is_near(word[1], words[word[1]], near, words)
    if word[0] in ("same", "unlike"):
        return word[1] in near and word[2] in near
    if word[0] in ("put", "change"):
        return (mark if word[0] == "put" else word[1]) in near
    return word[0] == "rule"


def near_words(book, high, pair):
    """(mark, word) of high's deeds on which the answer may hang, ascending."""
    rows = words_counted(book, high)
    near, words = near_records(rows, pair), {mark: word for mark, word in rows}
    return [(mark, word) for mark, word in rows if is_near(mark, word, near, words)]


def near_marks(book, low, high, one, other):
    """Ascending, the marks of the deeds between on which the answer may hang."""
    need_turn(book, low, high, one, other)
    return tuple([mark for mark, _ in near_words(book, high, (one, other)) if not counts(low, mark)])


def words_kept(words, low, lot, is_need):
    """Of near (mark, word) those without a lot for a need; else low's, and the lot."""
    if is_need:
        return [(mark, word) for mark, word in words if mark not in lot]
    return [(mark, word) for mark, word in words if mark in lot or counts(low, mark)]


def least_turning(book, low, high, pair, is_need):
    """As turn_needs, or as turn_grounds if it is no need; of right things."""
    words, known = near_words(book, high, pair), {}
    between = [mark for mark, _ in words if not counts(low, mark)]
    if len(between) > MOST_NEAR:
        raise InvalidSize("deeds")
    # High's answer is that over all near words, low's that over all of them without those between.
    wanted = answer_over(book, words_kept(words, low, between, is_need), pair, known)
    least = []
    for places in [()] + all_lots(len(between)):
        lot = tuple([between[place] for place in places])
        if not has_part(lot, least) and answer_over(book, words_kept(words, low, lot, is_need), pair, known) == wanted:
            least.append(lot)
    return tuple(sorted(least))


def turn_grounds(book, low, high, one, other):
    """Ascending, all least lots of deeds between that put to low's give high's answer."""
    need_turn(book, low, high, one, other)
    return least_turning(book, low, high, (one, other), False)


def turn_needs(book, low, high, one, other):
    """Ascending, all least lots of deeds between without which high's deeds give low's answer."""
    need_turn(book, low, high, one, other)
    return least_turning(book, low, high, (one, other), True)
