"""How far few deeds reach along diagonals, and papers of it ([11])."""

from whoiswho.edits import fewest_deeds, text_behind
from whoiswho.errors import InvalidSize
from whoiswho.plain import is_number, is_tuple_of, is_whole, need_texts

MOST_DEEDS = 12


def need_deeds(most):
    if not is_number(most) or most > MOST_DEEDS:
        raise InvalidSize("most")


def diagonals(one, other, deeds):
    """The diagonals of so many deeds, ascending."""
    return list(range(max(-deeds, -len(one)), min(deeds, len(other)) + 1))


def last_place(one, other, diagonal):
    return min(len(one), len(other) - diagonal)


def slid_place(one, other, diagonal, place):
    """The place to which alike signs lead along a diagonal."""
    here = place
    while here < last_place(one, other, diagonal) and one[here] == other[here + diagonal]:
        here += 1
    return here


def reached_place(one, other, diagonal, elder):
    """From where a row goes on along a diagonal: the most that one deed behind the elder row does."""
    places = []
    if diagonal in elder:
        places.append(elder[diagonal] + 1)
    if diagonal - 1 in elder:
        places.append(elder[diagonal - 1])
    if diagonal + 1 in elder:
        places.append(elder[diagonal + 1] + 1)
    return min(max(places), last_place(one, other, diagonal))


def far_rows(one, other, most):
    """For 0 to most deeds the greatest place of each diagonal, by diagonals."""
    rows = [{0: slid_place(one, other, 0, 0)}]
    for deeds in range(1, most + 1):
        row = {}
        for diagonal in diagonals(one, other, deeds):
            place = reached_place(one, other, diagonal, rows[-1])
            row[diagonal] = slid_place(one, other, diagonal, place)
        rows.append(row)
    return rows


def places_along(row):
    """The places of a row by rising diagonals."""
    return tuple([row[diagonal] for diagonal in sorted(row)])


def furthest_rows(one, other, most):
    """For 0 to most deeds the greatest place that they reach on each diagonal."""
    need_texts(one, other)
    need_deeds(most)
    return tuple([places_along(row) for row in far_rows(one, other, most)])


def deeds_needed(one, other, most):
    """The distance, or None if it is above most."""
    ends = len(other) - len(one)
    for deeds, row in enumerate(far_rows(one, other, most)):
        if row.get(ends, -1) == len(one):
            return deeds
    return None


def edits_within(one, other, most):
    """The distance of two texts, or None if it is above most."""
    need_texts(one, other)
    need_deeds(most)
    return deeds_needed(one, other, most)


def beyond_paper(one, other, most):
    """Far rows for 0 to most deeds, or None if so many do."""
    need_texts(one, other)
    need_deeds(most)
    if deeds_needed(one, other, most) is not None:
        return None
    return tuple([places_along(row) for row in far_rows(one, other, most)])


def edit_paper(one, other):
    """(script, rows): fewest deeds from the one to the other, and that fewer won't do."""
    need_texts(one, other)
    script = fewest_deeds(one, other)
    if len(script) == 0:
        return (script, ())
    return script, tuple([places_along(row) for row in far_rows(one, other, len(script) - 1)])


def is_far_place(one, other, diagonal, place, elder):
    """Whether a number is a far place of a diagonal behind an elder row, None for the first row."""
    last = last_place(one, other, diagonal)
    if not max(0, -diagonal) <= place <= last:
        return False
    if elder is not None and place < reached_place(one, other, diagonal, elder):
        return False
    if place == last:
        return not (place == len(one) and place + diagonal == len(other))
    return one[place] != other[place + diagonal]


def are_far_rows(one, other, value, many):
    """Whether any value is far rows for 0 deeds on, so many."""
    if not is_tuple_of(value, many):
        return False
    elder = None
    for deeds, row in enumerate(value):
        along = diagonals(one, other, deeds)
        if not is_tuple_of(row, len(along)) or not all([is_whole(place) for place in row]):
            return False
        places = {diagonal: row[at] for at, diagonal in enumerate(along)}
        if not all([is_far_place(one, other, diagonal, places[diagonal], elder) for diagonal in places]):
            return False
        elder = places
    return True


def beyond_holds(one, other, most, value):
    """Whether any value is far rows for 0 to most deeds."""
    need_texts(one, other)
    need_deeds(most)
    return are_far_rows(one, other, value, most + 1)


def leads_to(one, other, script):
    """Whether any value is a script, in tuples, from the one text to the other."""
    if not isinstance(script, tuple):
        return False
    here = one
    for deed in script:
        here = text_behind(here, deed) if isinstance(deed, tuple) else None
        if here is None:
            return False
    return here == other


def edit_holds(one, other, value):
    """Whether any value is (script, rows): fewest deeds, and as many far rows."""
    need_texts(one, other)
    if not is_tuple_of(value, 2) or not leads_to(one, other, value[0]):
        return False
    return are_far_rows(one, other, value[1], len(value[0]))
