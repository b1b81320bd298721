"""Houses that keep their deeds in signs, and may fall at any sign ([61])."""

from whoiswho.books import vector_of
from whoiswho.entries import are_signs, next_entry, write_entry
from whoiswho.errors import InvalidBook, InvalidDeed, InvalidEntry, InvalidSize, NoHouse
from whoiswho.meeting import book_behind, deeds_to_come, is_marked_deed, need_deeds, next_mark
from whoiswho.plain import is_below, is_whole

MOST_HOUSES = 8


def book_with(book, marked):
    """The book with any value, if this is (mark, deed) and can come next, or None."""
    if not is_marked_deed(marked, len(book)):
        return None
    mark, deed = marked
    if next_mark(vector_of(book), {mark: deed}) is None:
        return None
    try:
        return book_behind(book, (marked,))
    except InvalidBook:
        return None


def read_house(log, houses):
    """(book, signs): the book that entries tell, up to the first that can't come next, and how many signs these are."""
    if not are_signs(log):
        raise InvalidEntry("signs")
    if not is_whole(houses) or not 1 <= houses <= MOST_HOUSES:
        raise InvalidSize("houses")
    book, signs = tuple([() for _ in range(houses)]), 0
    entry = next_entry(log, 0)
    while entry is not None:
        further = book_with(book, entry[0])
        if further is None:
            break
        book, signs = further, entry[1]
        entry = next_entry(log, signs)
    return book, signs


def rows_on_the_way(log, signs, coming):
    """The log, it without what stands behind so many signs, then with one sign more each of the deeds to come."""
    rows = [tuple(log), tuple(log[:signs])]
    for marked in coming:
        for sign in write_entry(marked):
            rows.append(rows[-1] + (sign,))
    return tuple(rows)


def do_steps(log, houses, house, word):
    """(mark, rows): a house's next deed, and all rows of signs on the way of keeping it."""
    book, signs = read_house(log, houses)
    if not is_below(house, houses):
        raise NoHouse(house)
    marked = ((house, len(book[house])), (vector_of(book), word))
    if book_with(book, marked) is None:
        raise InvalidDeed(-1)
    return marked[0], rows_on_the_way(log, signs, (marked,))


def hear_steps(log, houses, deeds):
    """All rows of signs on the way of keeping what can come of these deeds."""
    book, signs = read_house(log, houses)
    coming = deeds_to_come(book, need_deeds(deeds, houses))
    book_behind(book, coming)
    return rows_on_the_way(log, signs, coming)


def early_run():
    """(signs, mark, deed, deed): a deed told a sign too early, and another one done with its mark."""
    # But for its last sign the entry stands, so a fall leaves nothing of the deed.
    mark, rows = do_steps((), 1, 0, ("put", ("ann",)))
    return rows[-2], mark, ((0,), ("put", ("ann",))), ((0,), ("put", ("ben",)))
